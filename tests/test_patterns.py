import itertools
import random
import unittest

from colonnade.errors import TooHeavy
from colonnade.filters import Compare, Opposite, Pair, Within
from colonnade.patterns import holds_always, numbers_told, order_patterns, test_need, test_weight
from colonnade.reading import read_filter
from colonnade.shapes import Shapes
from colonnade.translating import rebuilt

from tests.asking import filter_for
from tests.helpers import check_raises, check_unchanged

SHAPES = Shapes([
    ("t", [("a", "number", "b"), ("c", "number", "b"), ("d", "number", ""), ("e", "number", ""),
           ("f", "word", "w"), ("g", "number", "h")]),
    ("u", [("i", "number", "b"), ("j", "number", ""), ("k", "word", "w")]),
])
LEAST, GREATEST = -999999999, 999999999


def weight(text):
    return test_weight(read_filter(text), SHAPES)


def need(text, book="b"):
    return test_need(read_filter(text), SHAPES, book)


def patterns_by_trying(many, apart):
    return [pattern for pattern in itertools.product(range(many), repeat=many)
            if set(pattern) == set(range(max(pattern, default=-1) + 1))
            and len({pattern[at] for at in apart}) == len(apart)]


class PatternsTest(unittest.TestCase):
    def test_few_items(self):
        self.assertEqual(list(order_patterns(0)), [()])
        self.assertEqual(list(order_patterns(1)), [(0,)])
        self.assertEqual(list(order_patterns(2)), [(0, 0), (0, 1), (1, 0)])
        self.assertEqual(list(order_patterns(2, (0, 1))), [(0, 1), (1, 0)])
        self.assertEqual(list(order_patterns(2, [1])), [(0, 0), (0, 1), (1, 0)])

    def test_against_all_tuples(self):
        for many in range(5):
            for size in range(many + 1):
                for apart in itertools.permutations(range(many), size):
                    wanted = patterns_by_trying(many, apart)
                    self.assertEqual(wanted, sorted(wanted))
                    self.assertEqual(check_unchanged(self, lambda told: list(order_patterns(many, told)), list(apart)),
                                     wanted)
                    self.assertEqual(list(order_patterns(many, apart)), wanted)
        self.assertEqual(list(order_patterns(5)), patterns_by_trying(5, ()))

    def test_numbers_of_patterns(self):
        self.assertEqual([len(list(order_patterns(many))) for many in range(7)], [1, 1, 3, 13, 75, 541, 4683])
        self.assertEqual(len(list(order_patterns(6, range(6)))), 720)

    def test_is_a_generator(self):
        found = order_patterns(2)
        self.assertIs(iter(found), found)
        self.assertEqual(next(found), (0, 0))


class WeightTest(unittest.TestCase):
    def test_columns_and_values(self):
        for text, wanted in (
            ("a < 5", 2), ("a = c", 2), ("a = a", 1), ("a < 5 or a > 5", 2), ("a < 5 or a > 6", 3),
            ("a < 5 or c > 5", 3), ("a < 5 or d > 5", 4), ("d < 5 or e > 5", 3), ("a in (1, 2, 5)", 4),
            ("a in (1, 2) and a < 2 and a > 7", 4), ("f = 'rome'", 2), ("f = 'rome' and a = 1 and d = 1", 6),
            ("f < 'x' or f in ('x', 'y')", 3), ("a = 1 or g = 1", 4), ("not (a < c or d < e)", 4),
        ):
            self.assertEqual(weight(text), wanted, text)

    def test_values_at_the_ends_count_twice(self):
        for text, wanted in (
            (f"a < {LEAST}", 3), (f"d = {GREATEST}", 3), ("f = 'a'", 3), ("f = 'zzzzzzzz'", 3), ("f = 'zzzzzzz'", 2),
            (f"a > {LEAST + 1}", 2), (f"a in ({LEAST}, 0, {GREATEST})", 6), (f"a = {LEAST} or c = {LEAST}", 4),
            (f"a = {LEAST} or d = {LEAST}", 6), ("f = 'a' or k = 'a'", 4),
        ):
            self.assertEqual(weight(text), wanted, text)


class NeedTest(unittest.TestCase):
    def test_no_column_of_the_book(self):
        for text in ("d < 5", "f = 'x'", "d < 5 and e in (1, 2, 3, 4, 5)"):
            self.assertEqual(need(text), "none")
        self.assertEqual(need("a < 5 and f = 'x'", "h"), "none")

    def test_same(self):
        for text in (
            "a = 5", "a <> 5", "a in (1, 2)", "a = c", "not a <> c", "a < 5 or a >= 5", "a < 5 and a >= 5",
            "a < 5 and a > 5", "a <= 5 and a >= 5", "a < c or a >= c", "a < c or c < a", "a <= c and c <= a",
            "a < a", "a <= a", "not (a > 5 or a < 5)", f"a < {GREATEST} or a >= {GREATEST}",
        ):
            self.assertEqual(need(text), "same", text)
        self.assertEqual(need("f < 'x' or f > 'x'", "w"), "same")

    def test_order(self):
        for text in ("a < 5", "a <= 5", "a > 5", "not a >= 5", "a < c", "a >= c", "a < 5 or a > 6", "a <= 5 or a >= 7",
                     "a < 5 and a <> 7", f"a <= {GREATEST}", f"a < {LEAST}", "a < 5 or d = 0", "a < 5 or a = 6",
                     "a < 5 and c = 5", "a < c and d = 1", "a < c or a = 5"):
            self.assertEqual(need(text), "order", text)
        self.assertEqual(need("f >= 'a'", "w"), "order")

    def test_ends_of_the_domains(self):
        # No number is less than the least one, so the other part plays no part, but the codes may be less.
        self.assertEqual(need(f"a < 5 and d < {LEAST}"), "same")
        self.assertEqual(need(f"a < 5 or d >= {LEAST}"), "same")
        self.assertEqual(need(f"a < 5 and d <= {LEAST}"), "order")
        self.assertEqual(need("a < 5 and d > 4 and d < 5"), "same")
        self.assertEqual(need("a < 5 and d > 4 and d < 6"), "order")
        self.assertEqual(need("a < 5 and f < 'a'"), "same")
        self.assertEqual(need("a < 5 and f <= 'a'"), "order")
        self.assertEqual(need("a < c and f > 'b' and k < f and k > 'b'"), "order")
        self.assertEqual(need("a <> 5 and f > 'b' and f < 'ba'"), "same")

    def test_other_columns_need_room_for_each_other(self):
        # Between 4 and 6 there is one number, and not two that ascend.
        self.assertEqual(need("a < c and d > e and e > 4"), "order")
        self.assertEqual(need("a < c and d > e and d < -999999998"), "same")
        self.assertEqual(test_need(read_filter("a < c and d > e and d < -999999997"), SHAPES, "b"), "order")

    def test_each_book_of_a_test(self):
        test = read_filter("a < 5 and f = 'x'")
        self.assertEqual([test_need(test, SHAPES, book) for book in ("b", "w", "h")], ["order", "same", "none"])
        test = read_filter("(a < 5 or a >= 5) and g < 1")
        self.assertEqual([check_unchanged(self, test_need, test, SHAPES, book) for book in ("b", "h")],
                         ["same", "order"])

    def test_above_the_weight(self):
        self.assertEqual(weight("a < 5 or a >= 5 or d in (1, 2)"), 5)
        self.assertEqual(need("a < 5 or a >= 5 or d in (1, 2)"), "same")
        self.assertEqual(weight("a < 5 or a >= 5 or d in (1, 2, 3)"), 6)
        self.assertEqual(need("a < 5 or a >= 5 or d in (1, 2, 3)"), "order")
        for text, wanted in (("a in (1, 2, 3, 4, 5)", "same"), ("a in (1, 2, 3, 4, 5) and d < 5", "same"),
                             ("a in (1, 2, 3, 4, 5) and not c >= i", "order"), ("a = 1 and d < 5 and e in (6, 7)", "same"),
                             ("a <> c and a = i and d = j and e = 0", "same"), ("a in (1, 2, 3, 4, 5) and a <= a", "order")):
            self.assertGreater(weight(text), 5)
            self.assertEqual(need(text), wanted, text)
        self.assertEqual(need("a in (1, 2, 3, 4, 5) and d < 5", "h"), "none")

    def test_each_sign_above_the_weight(self):
        for sign in ("<", "<=", ">", ">="):
            for leaf in (f"a {sign} 1", f"a {sign} c", f"c {sign} a", f"a {sign} a"):
                self.assertEqual(need(f"a in (1, 2, 3, 4, 5) or not {leaf}"), "order")
            self.assertEqual(need(f"a in (1, 2, 3, 4, 5) or d {sign} e or g {sign} 1"), "same")
        for sign in ("=", "<>"):
            self.assertEqual(need(f"a in (1, 2, 3, 4, 5) or a {sign} 1 or a {sign} c or d < 1"), "same")

    def test_by_maps_of_values(self):
        dice = random.Random(10)
        found = {"same": 0, "order": 0}
        columns = SHAPES.columns_of("t") + SHAPES.columns_of("u")
        while min(found.values()) < 60:
            test = filter_for(dice, SHAPES, dice.sample(columns, 3))
            if test_weight(test, SHAPES) > 5:
                continue
            for book in {SHAPES.book_of(column) for column in test.columns_used()} - {""}:
                told = test_need(test, SHAPES, book)
                found[told] += 1
                if found[told] <= 60:
                    self.assertEqual(differs_by_maps(dice, test, book), told == "order", (test.text, book))


def differs_by_maps(dice, test, book):
    """Tell whether for some values and maps of the values of a book, the test tells them apart."""
    numbers = [-4, -3, -2, -1, 0, 1, 2, 3, 4, 5, 6, 7, 8, 9]
    words = ["a", "aa", "bo", "bonn", "bonna", "oslo", "osloa", "paris", "parisa", "rome", "romea", "x"]
    like = [column for column in test.columns_used() if SHAPES.book_of(column) == book]
    values = numbers if SHAPES.domain_of_book(book) == "number" else words
    for _ in range(1500):
        codes = dict(zip(values, dice.sample(range(len(values)), len(values))))

        def changed(leaf):
            if isinstance(leaf, Pair) or leaf.column not in like:
                return leaf
            if isinstance(leaf, Compare):
                return Compare(leaf.column, leaf.sign, codes[leaf.value])
            return Within(leaf.column, [codes[choice] for choice in leaf.choices])

        mapped = rebuilt(test, changed)
        for _ in range(4):
            row = {column: dice.choice(numbers if SHAPES.domain_of_column(column) == "number" else words)
                   for column in test.columns_used()}
            coded = {column: codes[value] if column in like else value for column, value in row.items()}
            if test.holds(row) != mapped.holds(coded):
                return True
    return False


class ToldTest(unittest.TestCase):
    def test_holds_always(self):
        for text in (
            "a < 5 or a >= 5", "a = a", f"a >= {LEAST}", f"d <= {GREATEST} and d >= {LEAST}", "f >= 'a'",
            "f <= 'zzzzzzzz'", "not f < 'a'", "a < c or c <= a", "d < e or d > e or d = e", "d <= 4 or d >= 5",
            "f <= 'b' or f >= 'ba'", "d < 5 or d <> 4", "not (d < 5 and d > 4)", "not (d > e and e > d)",
            "not (d > e and d < -999999998)", "not (f < k and k <= 'a')",
        ):
            self.assertIs(check_unchanged(self, holds_always, read_filter(text), SHAPES), True, text)

    def test_holds_not_always(self):
        for text in (
            "a < 5", "a < 5 and a > 5", "a <> 5", "a < c", "d < 5 or d > 5", f"a > {LEAST}", f"d < {GREATEST}",
            "f > 'a'", "f < 'zzzzzzzz'", "d <= 4 or d >= 6", "f <= 'b' or f >= 'baa'", "a < c or c < a",
            "d < e or e < j or j < d", "not (d > e and d < -999999997)", "a < a", "f < 'b' or k <> f",
        ):
            self.assertIs(holds_always(read_filter(text), SHAPES), False, text)

    def test_numbers_told(self):
        for text, wanted in (
            ("d = 5", [5]), ("a = 5", [5]), ("a > 4 and a <= 7", [5, 6, 7]), ("d >= 1 and d <= 8", list(range(1, 9))),
            ("d >= 1 and d <= 9", None), ("d > 5 and d < 6", None), ("d < 5", None), ("d = d", None), ("d < d", None),
            ("d in (1, 9, 5)", [1, 5, 9]), ("not (d < 5 or d > 6)", [5, 6]), ("not d <> -3", [-3]),
            (f"d < {LEAST + 8}", list(range(LEAST, LEAST + 8))), (f"d < {LEAST + 9}", None),
            (f"d > {GREATEST - 3}", [GREATEST - 2, GREATEST - 1, GREATEST]), (f"d < {LEAST}", None),
            (f"d >= {GREATEST}", [GREATEST]), (f"d <= {LEAST} or d = 5", [LEAST, 5]),
            (f"d <= {LEAST} or d > {GREATEST - 1}", [LEAST, GREATEST]),
            ("d < 10 and d > 2 and d <> 5 and d <> 7", [3, 4, 6, 8, 9]),
            ("d = 1 or d > 100000 and d < 900000", None), ("d = 1 or d > 100 and d < 104", [1, 101, 102, 103]),
            ("f = 'x'", None), ("d = e", None), ("d = 5 and e = 5", None), ("a = 5 and d = 5", None),
            ("d >= 0 and d <= 8", None), ("d >= 0 and d <= 8 and d <> 4", [0, 1, 2, 3, 5, 6, 7, 8]),
        ):
            self.assertEqual(check_unchanged(self, numbers_told, read_filter(text), SHAPES), wanted, text)

    def test_numbers_told_by_trying(self):
        dice = random.Random(11)
        for _ in range(300):
            test = filter_for(dice, SHAPES, ["d"], 3)
            if test_weight(test, SHAPES) > 5:
                continue
            told = [number for number in range(-40, 40) if test.holds({"d": number})]
            self.assertEqual(numbers_told(test, SHAPES), told if 1 <= len(told) <= 8 else None, test.text)
            self.assertIs(holds_always(test, SHAPES), len(told) == 80)

    def test_too_heavy(self):
        for text, heavy in (
            ("a in (1, 2, 3, 4, 5)", 6), ("f in ('a', 'b', 'c', 'd')", 6), (f"d in ({LEAST}, {GREATEST}, 0)", 6),
            ("d = 1 and e = 2 and j = 3", 6), ("f = 'a' and k = 'zzzzzzzz'", 6), ("d in (1, 2, 3, 4, 5, 6, 7)", 8),
        ):
            for call in (holds_always, numbers_told):
                check_raises(self, TooHeavy, {"weight": heavy}, call, read_filter(text), SHAPES)
        self.assertIs(holds_always(read_filter("a in (1, 2, 3, 4)"), SHAPES), False)
        self.assertEqual(numbers_told(Opposite(read_filter(f"d < {GREATEST} or d in (1, 2)")), SHAPES), [GREATEST])


if __name__ == "__main__":
    unittest.main()
