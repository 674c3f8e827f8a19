import itertools
import unittest

from colonnade.filters import Compare, Every, Filter, Fixed, Opposite, Pair, Some, Within, every_of, parts_of

from tests.helpers import check_unchanged

SIGNS = {
    "=": lambda a, b: a == b, "<>": lambda a, b: a != b, "<": lambda a, b: a < b,
    "<=": lambda a, b: a <= b, ">": lambda a, b: a > b, ">=": lambda a, b: a >= b,
}
A = Compare("a", "<", 5)
B = Compare("b", "=", "rome")
C = Pair("c", ">=", "a")


def rows_in(box):
    columns = sorted(box)
    for entries in itertools.product(*[range(box[column][0], box[column][1] + 1) for column in columns]):
        yield dict(zip(columns, entries))


def true_verdict(test, box):
    told = {test.holds(row) for row in rows_in(box)}
    return "open" if len(told) == 2 else "always" if told == {True} else "never"


class MakingTest(unittest.TestCase):
    def test_texts(self):
        cases = (
            (Compare("price", "<", 40), "price < 40"), (Compare("city", "=", "rome"), "city = 'rome'"),
            (Compare("price", "<>", -7), "price <> -7"), (Pair("price", "<", "cost"), "price < cost"),
            (Within("price", [5, 1, 2, 5]), "price in (1, 2, 5)"), (Within("city", ["b", "a"]), "city in ('a', 'b')"),
            (Within("price", [3]), "price in (3)"), (Every([A, B]), "a < 5 and b = 'rome'"),
            (Some([A, B]), "a < 5 or b = 'rome'"), (Opposite(A), "not a < 5"),
            (Fixed(True), "always"), (Fixed(False), "never"),
            (Every([Some([A, B]), C]), "(a < 5 or b = 'rome') and c >= a"),
            (Some([Every([A, B]), C]), "a < 5 and b = 'rome' or c >= a"),
            (Opposite(Every([A, C])), "not (a < 5 and c >= a)"), (Opposite(Some([A, C])), "not (a < 5 or c >= a)"),
            (Opposite(Opposite(A)), "not not a < 5"), (Opposite(Fixed(True)), "not always"),
            (Every([Opposite(Some([A, C])), B]), "not (a < 5 or c >= a) and b = 'rome'"),
            (Every([Opposite(Every([A, C])), B]), "not (a < 5 and c >= a) and b = 'rome'"),
            (Opposite(Within("a", [1, 2])), "not a in (1, 2)"),
        )
        for test, text in cases:
            self.assertEqual(test.text, text)
            self.assertIsInstance(test, Filter)

    def test_attributes(self):
        self.assertEqual((A.column, A.sign, A.value), ("a", "<", 5))
        self.assertEqual((C.column, C.sign, C.other), ("c", ">=", "a"))
        choices = [5, 1, 5]
        test = check_unchanged(self, Within, "x", choices)
        choices.append(9)
        self.assertEqual((test.column, test.choices), ("x", (1, 5)))
        parts = [A, B]
        for kind in (Every, Some):
            test = kind(parts)
            parts.append(C)
            self.assertEqual(test.parts, (A, B))
            parts.pop()
        self.assertIs(Opposite(A).part, A)
        self.assertIs(Fixed(True).truth, True)
        self.assertIs(Fixed(False).truth, False)

    def test_nested_parts(self):
        for kind, other in ((Every, Some), (Some, Every)):
            self.assertEqual(kind([kind([A, B]), C]).parts, (A, B, C))
            self.assertEqual(kind([C, kind([kind([A, B]), B]), A]).parts, (C, A, B, B, A))
            inner = other([A, B])
            self.assertEqual(kind([inner, C]).parts, (inner, C))

    def test_operators(self):
        both, one, none = A & B, A | B, ~A
        self.assertIs(both.__class__, Every)
        self.assertIs(one.__class__, Some)
        self.assertIs(none.__class__, Opposite)
        self.assertEqual((both.parts, one.parts), ((A, B), (A, B)))
        self.assertIs(none.part, A)
        self.assertEqual((A & B & C).parts, (A, B, C))
        self.assertEqual((A | (B | C)).parts, (A, B, C))
        self.assertEqual((A & B | C).text, "a < 5 and b = 'rome' or c >= a")
        self.assertEqual(((A | B) & ~C).text, "(a < 5 or b = 'rome') and not c >= a")

    def test_parts_of_and_every_of(self):
        self.assertEqual(parts_of(A & B & C), [A, B, C])
        for test in (A, A | B, ~(A & B), Fixed(True), Within("a", [1])):
            self.assertEqual(parts_of(test), [test])
        test = A & B
        parts_of(test).append(C)
        self.assertEqual(test.parts, (A, B))
        self.assertIsNone(every_of([]))
        self.assertIs(every_of([A]), A)
        tests = [A, B & C, A]
        joined = every_of(tests)
        self.assertIs(joined.__class__, Every)
        self.assertEqual(joined.parts, (A, *tests[1].parts, A))


class AskingTest(unittest.TestCase):
    def test_columns_used(self):
        cases = (
            (A, ("a",)), (C, ("a", "c")), (Pair("a", "<", "c"), ("a", "c")), (Pair("a", "=", "a"), ("a",)),
            (Within("x", [1]), ("x",)), (Fixed(True), ()), (~(B & A), ("a", "b")), (B | A | C | A, ("a", "b", "c")),
            (Every([Fixed(True), Fixed(False)]), ()),
        )
        for test, columns in cases:
            self.assertEqual(test.columns_used(), columns)

    def test_leaves(self):
        inside = Within("x", [1])
        test = ~(B & (A | C)) & inside | Fixed(True) & A
        self.assertEqual(test.leaves(), [B, A, C, inside, A])
        self.assertEqual(Fixed(False).leaves(), [])
        for leaf in (A, C, inside):
            self.assertEqual(leaf.leaves(), [leaf])
            leaf.leaves().append(B)
            self.assertEqual(leaf.leaves(), [leaf])

    def test_holds_for_signs(self):
        for sign, stands in SIGNS.items():
            for left, right in itertools.product((-1, 0, 1), repeat=2):
                self.assertIs(Compare("a", sign, right).holds({"a": left}), stands(left, right))
                self.assertIs(Pair("a", sign, "b").holds({"a": left, "b": right, "c": 7}), stands(left, right))
            for left, right in itertools.product(("a", "aa", "b"), repeat=2):
                self.assertIs(Compare("a", sign, right).holds({"a": left}), stands(left, right))

    def test_holds_for_others(self):
        test = Within("a", [1, 4])
        self.assertEqual([test.holds({"a": entry}) for entry in range(6)], [False, True, False, False, True, False])
        self.assertIs(Within("a", ["x"]).holds({"a": "x"}), True)
        low, high = Compare("a", "<", 2), Compare("a", ">", 4)
        for entry in range(7):
            row = {"a": entry}
            self.assertIs(check_unchanged(self, (low | high).holds, row), entry < 2 or entry > 4)
            self.assertIs((low & high).holds(row), False)
            self.assertIs((~low & ~high).holds(row), 2 <= entry <= 4)
            self.assertIs((~(low | high)).holds(row), 2 <= entry <= 4)
        self.assertIs(Fixed(True).holds({}), True)
        self.assertIs(Fixed(False).holds({}), False)
        self.assertIs((~Fixed(False)).holds({}), True)

    def test_deep_nesting(self):
        test = A
        for _ in range(25):
            test = ~(test | B) & C
        self.assertIn(test.holds({"a": 1, "b": "x", "c": 2}), (True, False))
        self.assertEqual(len(test.leaves()), 51)


class VerdictTest(unittest.TestCase):
    def test_compare_and_pair(self):
        pairs = [(low, high) for low in range(-1, 4) for high in range(low, 4)]
        for sign in SIGNS:
            for left in pairs:
                for value in range(-2, 6):
                    test, box = Compare("a", sign, value), {"a": left, "z": (0, 9)}
                    self.assertEqual(check_unchanged(self, test.verdict, box), true_verdict(test, {"a": left}))
                self.assertEqual(Pair("a", sign, "a").verdict({"a": left}),
                                 true_verdict(Pair("a", sign, "a"), {"a": left}))
                for right in pairs:
                    test, box = Pair("a", sign, "b"), {"a": left, "b": right}
                    self.assertEqual(test.verdict(box), true_verdict(test, box), (test.text, box))

    def test_within(self):
        test = Within("a", [2, 3, 7])
        cases = (((2, 2), "always"), ((3, 3), "always"), ((4, 4), "never"), ((4, 6), "never"), ((8, 9), "never"),
                 ((2, 3), "open"), ((0, 2), "open"), ((7, 9), "open"), ((-5, 1), "never"), ((0, 9), "open"))
        for span, verdict in cases:
            self.assertEqual(test.verdict({"a": span}), verdict)

    def test_fixed_and_opposite(self):
        self.assertEqual((Fixed(True).verdict({}), Fixed(False).verdict({})), ("always", "never"))
        for test, box in ((A, {"a": (0, 4)}), (A, {"a": (5, 5)}), (A, {"a": (4, 5)})):
            exchanged = {"always": "never", "never": "always", "open": "open"}
            self.assertEqual((~test).verdict(box), exchanged[test.verdict(box)])

    def test_ways_of_joining(self):
        box = {"a": (0, 1)}
        leaves = {"always": Compare("a", "<", 2), "never": Compare("a", "<", 0), "open": Compare("a", "<", 1)}
        for names in itertools.chain(itertools.product(leaves, repeat=2), itertools.product(leaves, repeat=3)):
            parts = [leaves[name] for name in names]
            every = "never" if "never" in names else "open" if "open" in names else "always"
            some = "always" if "always" in names else "open" if "open" in names else "never"
            self.assertEqual(Every(parts).verdict(box), every)
            self.assertEqual(Some(parts).verdict(box), some)

    def test_open_though_it_always_holds(self):
        test = Compare("a", "<", 5) | Compare("a", ">=", 5)
        self.assertEqual(test.verdict({"a": (4, 6)}), "open")
        self.assertEqual(test.verdict({"a": (4, 4)}), "always")
        self.assertEqual((~test).verdict({"a": (7, 9)}), "never")
        self.assertEqual(Within("a", [1, 2]).verdict({"a": (1, 2)}), "open")

    def test_facts(self):
        one, two = Compare("a", "<", 2), Pair("b", ">=", "c")
        for test in (one & two, one | two, ~(one & ~two), ~one | two, Fixed(True) & one, one | Fixed(False)):
            for spans in itertools.product([(low, high) for low in range(3) for high in range(low, 3)], repeat=3):
                box = dict(zip("abc", spans))
                self.assertEqual(test.verdict(box), true_verdict(test, box), (test.text, box))


if __name__ == "__main__":
    unittest.main()
