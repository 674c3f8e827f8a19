import itertools
import random
import unittest

from colonnade.books import Book
from colonnade.boxes import in_box
from colonnade.carries import Carry
from colonnade.checker import AnswerClaim, FoundClaim
from colonnade.coded import make_scene
from colonnade.deeds import perform, perform_all
from colonnade.disks import Disk
from colonnade.errors import Lost, NoCarry
from colonnade.filters import Compare, Every, Opposite, Pair, Some, Within
from colonnade.houses import House
from colonnade.needs import Needs
from colonnade.papers import answer_paper, carried_paper, found_paper, paper_needs, sure_verdict
from colonnade.patterns import test_need
from colonnade.plainly import plain_answer
from colonnade.reading import read_filter, read_question
from colonnade.records import found_records, last_found, read_records
from colonnade.recovery import recover
from colonnade.relations import is_enough
from colonnade.shapes import Shapes
from colonnade.translating import on_codes

from tests.asking import SHAPES, books_for, filter_for, question_for, scene_for
from tests.helpers import check_raises, check_unchanged
from tests.histories import SHOP, commit_for, deed_for, shop_books, step_for, store_behind
from tests.housing import falls_of, thresholds
from tests.test_houses import LITTLE, do_step

test_need.__test__ = False
FLAT = Shapes([("t", [("a", "number", "n"), ("b", "number", "n"), ("w", "word", "w"), ("c", "number", "")])])
ORDER = {"n": Book("number", 40, [(1, 10), (3, 20), (5, 30), (8, 31)]), "w": Book("word", 40, [("f", 5), ("m", 9), ("t", 12)])}
SAME = {"n": Book("number", 1, [(1, 30), (3, 20), (5, 10), (8, 31)]), "w": Book("word", 1, [("f", 9), ("m", 5), ("t", 12)])}


def told_verdict(test, box, shapes, books):
    """Return the sure verdict of one test, told by the words of point 56."""
    closed, bounds = {}, {}
    for column in test.columns_used():
        name = shapes.book_of(column)
        if name and not all(is_enough(books[name].keeps, test_need(leaf, shapes, name)) for leaf in test.leaves()):
            low, high = box[column]
            values = {code: value for value, code in books[name].entries}
            if low != high or low not in values:
                return "open"
            bounds[column] = (values[low], values[low])
        else:
            closed[column] = books.get(name)
            bounds[column] = box[column]
    return on_codes(test, closed).verdict(bounds)


def box_for(dice, columns, books, shapes):
    """Return a random box of codes of the columns."""
    box = {}
    for column in columns:
        name = shapes.book_of(column)
        codes = [code for value, code in books[name].entries] if name else [-3, 0, 1, 2, 5, 7]
        ends = sorted([dice.choice(codes), dice.choice(codes)])
        kind = dice.randint(0, 3)
        box[column] = (ends[0], ends[0]) if kind < 2 else (ends[0] - dice.randint(0, 1), ends[1] + dice.randint(0, 1))
    return box


class VerdictTest(unittest.TestCase):
    def check(self, text, box, books, verdict):
        tests = [read_filter(part) for part in ([text] if isinstance(text, str) else text)]
        self.assertEqual(check_unchanged(self, sure_verdict, tests, box, FLAT, books), verdict)

    def test_no_tests(self):
        self.assertEqual(sure_verdict([], {}, FLAT, {}), "always")
        self.assertEqual(sure_verdict([], {"a": (1, 5)}, FLAT, ORDER), "always")

    def test_columns_without_a_book(self):
        for low, high, verdict in ((1, 4, "always"), (4, 4, "always"), (5, 9, "never"), (4, 5, "open"), (-10 ** 20, 4, "always")):
            self.check("c < 5", {"c": (low, high)}, ORDER, verdict)

    def test_books_that_keep_order(self):
        for box, verdict in (((10, 20), "always"), ((10, 29), "always"), ((30, 31), "never"), ((20, 30), "open"),
                             ((-9, 0), "always"), ((32, 99), "never"), ((21, 29), "always")):
            self.check("a < 4", {"a": box}, ORDER, verdict)
        for box, verdict in (((9, 9), "always"), ((5, 9), "open"), ((6, 8), "never"), ((5, 5), "never"), ((99, 99), "never")):
            self.check("w = 'm'", {"w": box}, ORDER, verdict)
        self.check("a <= b", {"a": (10, 20), "b": (20, 31)}, ORDER, "always")
        self.check("a < b", {"a": (10, 20), "b": (20, 31)}, ORDER, "open")

    def test_books_that_keep_only_sameness(self):
        # A leaf that needs order opens its column: one code is needed, and the book must have it.
        for box, verdict in (((30, 30), "always"), ((20, 20), "always"), ((10, 10), "never"), ((31, 31), "never"),
                             ((20, 30), "open"), ((10, 31), "open"), ((11, 11), "open"), ((-1, -1), "open"), ((0, 0), "open")):
            self.check("a < 4", {"a": box}, SAME, verdict)
        for text in ("a = 5", "a <> 5", "a in (3, 5)", "a = b", "a <> b"):
            for box in ((10, 10), (11, 11), (10, 20), (20, 31), (-5, 5)):
                test = read_filter(text)
                told = {"a": box, "b": (20, 30)}
                closed = on_codes(test, {"a": SAME["n"], "b": SAME["n"]}).verdict(told)
                self.check(text, told, SAME, closed)
        self.check("a = 5", {"a": (11, 31)}, SAME, "never")
        self.check("a = 5", {"a": (10, 10)}, SAME, "always")

    def test_the_leaves_count_and_not_the_test(self):
        # The whole test needs only "same", its leaves need "order".
        for books, verdict in ((ORDER, "open"), (SAME, "open")):
            self.check("a < 4 or a >= 4", {"a": (10, 31)}, books, verdict)
        self.check("a < 4 or a >= 4", {"a": (10, 10)}, SAME, "always")
        self.check("a < 4 or a >= 4", {"a": (11, 11)}, SAME, "open")
        self.check("a < 4 or a >= 4", {"a": (11, 11)}, ORDER, "always")
        # One leaf opens all columns with its book.
        self.check("a = 5 or b < 4", {"a": (10, 10), "b": (10, 31)}, SAME, "open")
        self.check("a = 5 or b < 4", {"a": (10, 10), "b": (10, 10)}, SAME, "always")
        self.check("a = 5 or b < 4", {"a": (11, 11), "b": (30, 30)}, SAME, "open")
        self.check("a = 5 or w < 'n'", {"a": (10, 31), "w": (9, 9)}, {**ORDER, "w": SAME["w"]}, "always")
        self.check("a = 5 and w < 'n'", {"a": (10, 31), "w": (12, 12)}, {**ORDER, "w": SAME["w"]}, "never")
        self.check("a = 5 and w < 'n'", {"a": (10, 31), "w": (9, 9)}, {**ORDER, "w": SAME["w"]}, "open")

    def test_each_test_for_itself(self):
        self.check(["a = 5", "a < 4"], {"a": (10, 31)}, SAME, "open")
        self.check(["a = 5", "a < 4"], {"a": (11, 11)}, SAME, "never")
        self.check(["a < 9", "c < 5"], {"a": (10, 10), "c": (5, 7)}, SAME, "never")
        self.check(["c < 5", "a < 9"], {"a": (10, 10), "c": (4, 4)}, SAME, "always")
        self.check(["c < 5", "a < 9"], {"a": (10, 10), "c": (4, 5)}, SAME, "open")
        self.check(["c < 5", "c > 9"], {"c": (6, 8)}, ORDER, "never")
        self.check(["c > 5", "c < 7", "c = c"], {"c": (6, 6)}, ORDER, "always")

    def test_values_behind_codes(self):
        self.check("a < b", {"a": (30, 30), "b": (20, 20)}, SAME, "always")
        self.check("a < b", {"a": (10, 10), "b": (20, 20)}, SAME, "never")
        self.check("a < b", {"a": (10, 10), "b": (20, 30)}, SAME, "open")
        self.check("w < 'n' and a > 4", {"w": (9, 9), "a": (31, 31)}, SAME, "always")

    def test_a_box_with_more_columns(self):
        self.check("a < 4", {"a": (10, 20), "c": (0, 99), "w": (1, 2)}, ORDER, "always")

    def test_drawn_tests(self):
        dice = random.Random(101)
        counts = {}
        for _ in range(400):
            books = books_for(dice, SHAPES)
            table = dice.choice(SHAPES.tables)
            columns = SHAPES.columns_of(table)
            tests = [filter_for(dice, SHAPES, columns) for _ in range(dice.randint(1, 2))]
            box = box_for(dice, columns, books, SHAPES)
            told = [told_verdict(test, box, SHAPES, books) for test in tests]
            wanted = "never" if "never" in told else "open" if "open" in told else "always"
            found = sure_verdict(tests, box, SHAPES, books)
            self.assertEqual(found, wanted)
            counts[found] = counts.get(found, 0) + 1
            if found == "open":
                continue
            # What is sure is so for all rows of the books whose codes lie in the box.
            spans = []
            for column in columns:
                name = SHAPES.book_of(column)
                low, high = box[column]
                entries = books[name].entries if name else [(value, value) for value in range(low, high + 1)]
                spans.append([value for value, code in entries if low <= code <= high])
            for values in itertools.islice(itertools.product(*spans), 300):
                row = dict(zip(columns, values))
                self.assertEqual(all(test.holds(row) for test in tests), found == "always")
        self.assertGreater(min(counts.values()), 40)

    def test_a_part_of_a_sure_box_is_sure(self):
        dice = random.Random(102)
        for _ in range(200):
            books = books_for(dice, SHAPES)
            columns = SHAPES.columns_of(dice.choice(SHAPES.tables))
            tests = [filter_for(dice, SHAPES, columns)]
            box = box_for(dice, columns, books, SHAPES)
            found = sure_verdict(tests, box, SHAPES, books)
            inner = {column: (dice.randint(low, high), high) for column, (low, high) in box.items()}
            if found != "open":
                self.assertEqual(sure_verdict(tests, inner, SHAPES, books), found)

    def test_classes_of_filters(self):
        box = {"a": (10, 20), "b": (30, 31), "w": (5, 9), "c": (3, 3)}
        for test, verdict in (
            (Every([Compare("a", "<", 4), Pair("a", "<", "b")]), "always"), (Opposite(Pair("a", "<", "b")), "never"),
            (Some([Within("c", [3]), Compare("w", "=", "t")]), "always"), (Within("w", ["t", "x"]), "never"),
            (Within("w", ["f", "m"]), "open"), (Within("w", ["x"]), "never"),
        ):
            self.assertEqual(sure_verdict([test], box, FLAT, ORDER), verdict)


PEOPLE = Shapes([("t", [("a", "number", "n"), ("w", "word", "w"), ("c", "number", "")]), ("u", [("d", "number", "n")])])
ROWS = {"t": [(1, "f", 1), (3, "m", 9), (5, "t", 2), (8, "f", 1), (1, "m", 5)], "u": [(1,), (8,)]}


def people(books=None, **told):
    told_books = {name: (books or ORDER)[name] for name in ("n", "w")}
    return make_scene(PEOPLE, told_books, ROWS, **{"size": 2, **told})


class AnswerPaperTest(unittest.TestCase):
    def paper(self, text, scene):
        question = read_question(text, PEOPLE)
        paper = check_unchanged(self, answer_paper, question, scene)
        rows = plain_answer(question, scene.all_rows())
        self.assertIs(AnswerClaim(question, scene, rows).accepts(paper), True)
        return paper

    def test_without_tests(self):
        self.assertEqual(self.paper("from t tell a", people()), {"t": ((0, 5, "always", {}),)})
        self.assertEqual(self.paper("from t tell a", people(unseen={"t": [0, 3]})), {"t": ((1, 5, "always", {}),)})
        self.assertEqual(self.paper("from t tell a", people(unseen={"t": [0, 1, 2, 3, 4]})), {"t": ()})
        paper = self.paper("from u join t on d = a tell c", people())
        self.assertEqual(list(paper.items()), [("u", ((0, 2, "always", {}),)), ("t", ((0, 5, "always", {}),))])

    def test_books_that_keep_order(self):
        # The codes of a are 10, 20, 30, 31, 10.
        self.assertEqual(self.paper("from t where a < 4 tell a", people()), {"t": (
            (0, 2, "always", {"a": (10, 20)}), (2, 4, "never", {"a": (30, 31)}), (4, 5, "always", {"a": (10, 10)}))})
        self.assertEqual(self.paper("from t where a < 4 and c < 9 tell a", people()), {"t": (
            (0, 1, "always", {"a": (10, 10), "c": (1, 1)}), (1, 2, "never", {"a": (20, 20), "c": (9, 9)}),
            (2, 4, "never", {"a": (30, 31), "c": (1, 2)}), (4, 5, "always", {"a": (10, 10), "c": (5, 5)}))})
        scene = people(unseen={"t": [1, 4]})
        self.assertEqual(self.paper("from t where a < 4 tell a", scene), {"t": (
            (0, 1, "always", {"a": (10, 10)}), (2, 4, "never", {"a": (30, 31)}))})
        scene = people(unseen={"t": [2]})
        self.assertEqual(self.paper("from t where a < 8 tell a", scene), {"t": (
            (0, 2, "always", {"a": (10, 20)}), (3, 4, "never", {"a": (31, 31)}), (4, 5, "always", {"a": (10, 10)}))})

    def test_books_that_keep_only_sameness(self):
        # The codes of a are 30, 20, 10, 31, 30, those of w 9, 5, 12, 9, 5.
        self.assertEqual(self.paper("from t where a < 4 tell a", people(SAME)), {"t": tuple([
            (at, at + 1, reason, {"a": (code, code)}) for at, (reason, code) in enumerate((
                ("always", 30), ("always", 20), ("never", 10), ("never", 31), ("always", 30)))])})
        self.assertEqual(self.paper("from t where w = 'f' tell a", people(SAME)), {"t": (
            (0, 1, "always", {"w": (9, 9)}), (1, 2, "never", {"w": (5, 5)}), (2, 3, "never", {"w": (12, 12)}),
            (3, 4, "always", {"w": (9, 9)}), (4, 5, "never", {"w": (5, 5)}))})

    def test_only_scan_tests_of_the_table(self):
        paper = self.paper("from t join u on a = d where c < 4 and d > 1 and a < d tell w", people())
        self.assertEqual(paper, {
            "t": ((0, 1, "always", {"c": (1, 1)}), (1, 2, "never", {"c": (9, 9)}), (2, 4, "always", {"c": (1, 2)}),
                  (4, 5, "never", {"c": (5, 5)})),
            "u": ((0, 1, "never", {"d": (10, 10)}), (1, 2, "always", {"d": (31, 31)}))})

    def test_fewest_covers(self):
        dice = random.Random(103)
        for _ in range(150):
            question, scene = question_for(dice), scene_for(dice, most=6)
            paper = answer_paper(question, scene)
            self.assertEqual(list(paper), list(question.tables))
            books = {name: scene.book_named(name) for name in SHAPES.books}
            for table, covers in paper.items():
                tests = question.scan_tests(table)
                coded = scene.table_named(table)
                columns = sorted({column for test in tests for column in test.columns_used()})
                numbers = {column: coded.numbers_of(column) for column in columns}
                seen = list(coded.seen.each_place())
                left = seen
                for start, end, reason, box in covers:
                    many = len([place for place in left if place < end])
                    self.assertEqual((left[0], left[many - 1] + 1), (start, end))
                    for count in range(1, len(left) + 1):
                        wide = {column: (min(own[place] for place in left[:count]), max(own[place] for place in left[:count]))
                                for column, own in numbers.items()}
                        verdict = sure_verdict(tests, wide, SHAPES, books)
                        # The cover is the longest sure group.
                        self.assertEqual(verdict != "open", count <= many)
                        if count == many:
                            self.assertEqual((reason, box), (verdict, wide))
                    left = left[many:]
                self.assertEqual(left, [])

    def test_drawn_questions(self):
        dice = random.Random(104)
        for _ in range(150):
            question, scene = question_for(dice), scene_for(dice)
            rows = plain_answer(question, scene.all_rows())
            paper = check_unchanged(self, answer_paper, question, scene)
            self.assertIs(AnswerClaim(question, scene, rows).accepts(paper), True)
            self.assertIs(AnswerClaim(question, scene, rows + [()]).accepts(paper), False)

    def test_results_are_new(self):
        question = read_question("from t where a < 4 tell a", PEOPLE)
        paper = answer_paper(question, people())
        paper["t"][0][3].clear()
        paper.clear()
        self.assertEqual(answer_paper(question, people())["t"][0][3], {"a": (10, 20)})


class NeedsOfPapersTest(unittest.TestCase):
    def needs(self, paper, text="from t where a < 4 and w = 'm' and c = 1 tell a"):
        return check_unchanged(self, paper_needs, paper, read_question(text, PEOPLE))

    def test_needs(self):
        point = {"w": (5, 5), "a": (10, 10), "c": (1, 9)}
        self.assertEqual(list(self.needs({"t": ((0, 1, "never", point),)}).items()), [("n", "same"), ("w", "same")])
        for wide, needs in (({"a": (10, 11)}, {"n": "order", "w": "same"}), ({"w": (5, 6)}, {"n": "same", "w": "order"})):
            for covers in ([point, {**point, **wide}], [{**point, **wide}, point]):
                paper = {"t": tuple([(at, at + 1, "never", box) for at, box in enumerate(covers)])}
                self.assertEqual(self.needs(paper), needs)
        self.assertEqual(self.needs({"t": ()}), {})
        self.assertEqual(self.needs({"t": ((0, 1, "always", {"c": (0, 5)}),)}), {})

    def test_a_book_of_several_tables(self):
        text = "from t join u on a = d where a < 4 and d < 4 tell a"
        paper = {"t": ((0, 1, "always", {"a": (10, 10)}),), "u": ((0, 1, "never", {"d": (10, 12)}),)}
        self.assertEqual(self.needs(paper, text), {"n": "order"})


class CarriedPaperTest(unittest.TestCase):
    text = "from t where a < 4 and c = 1 tell a"

    def carry(self, places, codes=None, words=None):
        return Carry({"t": places, "u": [0, 1]}, {"n": codes or {code: code for code in (10, 20, 30, 31)},
                                                  "w": words or {5: 5, 9: 9, 12: 12}}, [0, 1])

    def carried(self, paper, carry, text=None):
        return check_unchanged(self, carried_paper, paper, read_question(text or self.text, PEOPLE), carry)

    def test_codes(self):
        paper = {"t": ((0, 2, "always", {"a": (10, 20), "c": (1, 5)}), (2, 5, "never", {"a": (25, 99), "c": (-3, 2)}))}
        same = list(range(5))
        self.assertEqual(self.carried(paper, self.carry(same)), {"t": (
            (0, 2, "always", {"a": (10, 20), "c": (1, 5)}), (2, 5, "never", {"a": (30, 31), "c": (-3, 2)}))})
        carry = self.carry(same, {10: 1, 20: 5, 30: 6, 31: 70})
        self.assertEqual(self.carried(paper, carry), {"t": (
            (0, 2, "always", {"a": (1, 5), "c": (1, 5)}), (2, 5, "never", {"a": (6, 70), "c": (-3, 2)}))})
        # Where no old code is from low to high, both stay.
        paper = {"t": ((0, 5, "always", {"a": (11, 19), "c": (1, 1)}),)}
        self.assertEqual(self.carried(paper, carry), paper)
        for bounds, new in (((0, 10), (1, 1)), ((0, 20), (1, 5)), ((11, 30), (5, 6)), ((21, 40), (6, 70)), ((31, 31), (70, 70)),
                            ((32, 99), (32, 99)), ((-5, 9), (-5, 9))):
            paper = {"t": ((0, 5, "always", {"a": bounds, "c": (1, 1)}),)}
            self.assertEqual(self.carried(paper, carry)["t"][0][3]["a"], new)

    def test_codes_that_keep_only_sameness(self):
        carry = self.carry(list(range(5)), {10: 9, 20: 5, 30: 6, 31: 70})
        paper = {"t": tuple([(at, at + 1, "never", {"a": (code, code), "c": (0, 9)})
                             for at, code in enumerate((10, 20, 30, 31, 15))])}
        self.assertEqual([cover[3]["a"] for cover in self.carried(paper, carry)["t"]],
                         [(9, 9), (5, 5), (6, 6), (70, 70), (15, 15)])
        wide = {"t": (*paper["t"][:4], (4, 5, "never", {"a": (10, 20), "c": (0, 9)}))}
        check_raises(self, NoCarry, {"book": "n"}, carried_paper, wide, read_question(self.text, PEOPLE), carry)
        # Of a column without a book nothing is needed.
        self.assertEqual(len(self.carried(paper, carry)["t"]), 5)

    def test_codes_that_keep_nothing(self):
        paper = {"t": ((0, 5, "always", {"a": (10, 10), "w": (5, 5)}),)}
        text = "from t where a < 4 and w = 'm' tell a"
        none, order = {10: 5, 20: 5, 30: 7, 31: 8}, {10: 1, 20: 5, 30: 6, 31: 70}
        for codes, words, book in ((none, {5: 1, 9: 1, 12: 2}, "n"), (order, {5: 1, 9: 1, 12: 2}, "w"), (none, None, "n")):
            check_raises(self, NoCarry, {"book": book}, carried_paper, paper, read_question(text, PEOPLE),
                         self.carry(list(range(5)), codes, words))
        self.assertEqual(self.carried({"t": ()}, self.carry([], none, {})), {"t": ()})
        paper = {"t": ((0, 5, "always", {"c": (1, 2)}),)}
        self.assertEqual(self.carried(paper, self.carry(list(range(5)), none), "from t where c < 5 tell a"), paper)

    def test_places(self):
        box = {"a": (10, 10), "c": (1, 1)}
        other = {"a": (31, 31), "c": (1, 2)}
        paper = {"t": ((0, 3, "always", box), (3, 5, "never", other))}
        for places, covers in (
            ([0, 1, 2, 3, 4], [(0, 3, "always", box), (3, 5, "never", other)]),
            ([0, 1, 4, 3, 2], [(0, 2, "always", box), (2, 4, "never", other), (4, 5, "always", box)]),
            ([4, 3, 2, 1, 0], [(0, 2, "never", other), (2, 5, "always", box)]),
            ([0, 2, 4, 1, 3], [(0, 1, "always", box), (1, 2, "never", other), (2, 3, "always", box), (3, 4, "never", other),
                               (4, 5, "always", box)]),
            ([0, None, 1, 2, None], [(0, 2, "always", box), (2, 3, "never", other)]),
            ([None, None, None, 0, 1], [(0, 2, "never", other)]), ([None] * 5, []),
            ([1, 0, 2, 4, 3], [(0, 3, "always", box), (3, 5, "never", other)]),
        ):
            self.assertEqual(self.carried(paper, self.carry(places)), {"t": tuple(covers)})
        # Places between the covers lie in none.
        paper = {"t": ((0, 1, "always", box), (3, 5, "always", box))}
        self.assertEqual(self.carried(paper, self.carry([2, 0, 4, 1, 3])), {"t": (
            (1, 2, "always", box), (2, 3, "always", box), (3, 4, "always", box))})

    def test_neighbours_of_different_covers_are_not_joined(self):
        box = {"a": (10, 10), "c": (1, 1)}
        paper = {"t": ((0, 2, "always", box), (2, 5, "always", box))}
        self.assertEqual(self.carried(paper, self.carry([4, 1, 0, 2, 3])), {"t": (
            (0, 1, "always", box), (1, 2, "always", box), (2, 4, "always", box), (4, 5, "always", box))})

    def test_results_are_new(self):
        paper = {"t": ((0, 5, "always", {"a": (10, 10), "c": (1, 1)}),)}
        carried = self.carried(paper, self.carry(list(range(5))))
        carried["t"][0][3].clear()
        carried.clear()
        self.assertEqual(paper, {"t": ((0, 5, "always", {"a": (10, 10), "c": (1, 1)}),)})


class BehindDeedsTest(unittest.TestCase):
    def test_carried_papers_are_accepted_as_the_answers_stand(self):
        dice = random.Random(105)
        counts = {}
        for _ in range(400):
            store = store_behind(dice, dice.randint(2, 5))
            question = question_for(dice, SHOP, 1)
            moment = dice.choice(store.kept)
            scene = store.scene_at(moment)
            rows, paper = plain_answer(question, scene.all_rows()), answer_paper(question, scene)
            needs = paper_needs(paper, question)
            step = deed_for(dice, store)
            carry = perform(store, *step)
            short = [book for book, need in needs.items() if not is_enough(carry.keeps_codes(book), need)]
            if short:
                check_raises(self, NoCarry, {"book": short[0]}, carried_paper, paper, question, carry)
                counts["none"] = counts.get("none", 0) + 1
                continue
            carried = check_unchanged(self, carried_paper, paper, question, carry)
            if moment not in carry.moments:
                continue
            need = Needs(question).places_need
            stands = all(is_enough(carry.keeps_places(table), need) for table in question.tables)
            scene = store.scene_at(moment)
            again = plain_answer(question, scene.all_rows())
            if stands:
                self.assertEqual(again, rows)
                self.assertIs(AnswerClaim(question, scene, rows).accepts(carried), True, (step, question.text))
                counts[step[0]] = counts.get(step[0], 0) + 1
            elif rows != again:
                self.assertIs(AnswerClaim(question, scene, rows).accepts(carried), False)
        self.assertEqual(len(counts), 9)
        self.assertGreater(sorted(counts.values())[1], 5)

    def test_commits_need_no_carrying(self):
        dice = random.Random(106)
        stood = 0
        for _ in range(250):
            store = store_behind(dice, dice.randint(1, 4))
            question = question_for(dice, SHOP, 1)
            moment = dice.choice(store.kept)
            scene = store.scene_at(moment)
            rows, paper = plain_answer(question, scene.all_rows()), answer_paper(question, scene)
            books = {name: store.book_named(name) for name in SHOP.books}
            perform_all(store, [("commit", *commit_for(dice, store)), ("restore", dice.choice(store.kept))])
            if self.promises(question, books, {name: store.book_named(name) for name in SHOP.books}):
                stood += 1
                self.assertIs(AnswerClaim(question, store.scene_at(moment), rows).accepts(paper), True)
        self.assertGreater(stood, 60)

    def promises(self, question, before, now):
        """Tell whether a paper made with these books is accepted behind commits that leave those."""
        leaves = [leaf for table in question.tables for test in question.scan_tests(table) for leaf in test.leaves()]
        for leaf in leaves:
            name = SHOP.book_of(leaf.column)
            if not name:
                continue
            kept = is_enough(before[name].keeps, "order")
            ordered = not isinstance(leaf, Within) and leaf.sign in ("<", "<=", ">", ">=")
            if not kept and ordered or kept and not is_enough(now[name].keeps, "order"):
                return False
            told = [] if isinstance(leaf, Pair) else leaf.choices if isinstance(leaf, Within) else [leaf.value]
            if any(value in now[name] and value not in before[name] for value in told):
                return False
        return True

    def test_behind_a_fall(self):
        dice = random.Random(107)
        counts = {True: 0, False: 0}
        for _ in range(120):
            house = House(SHOP, shop_books(dice))
            for _ in range(dice.randint(1, 3)):
                do_step(house, step_for(dice, house.store))
            question = question_for(dice, SHOP, 1)
            first, moment = house.written(), dice.choice(house.store.kept)
            scene = house.store.scene_at(moment)
            rows, paper = plain_answer(question, scene.all_rows()), answer_paper(question, scene)
            books = {name: house.store.book_named(name) for name in SHOP.books}
            lengths = {name: dice.randint(house.disk.synced(name), house.disk.length(name))
                       for name in house.disk.all_files()}
            disk = house.disk.fall({**lengths, "log": house.disk.length("log")})
            kinds = [record.kind for record in read_records(house.disk.read("log"))]
            number = last_found(disk)
            recovered = recover(disk, SHOP)
            now = {name: recovered.store.book_named(name) for name in SHOP.books}
            if "deed" in kinds[number + 1:first + 1] or not self.promises(question, now, books):
                continue
            is_kept = moment in recovered.store.kept
            self.assertEqual(is_kept, moment <= recovered.store.moment)
            counts[is_kept] += 1
            if is_kept:
                self.assertIs(AnswerClaim(question, recovered.store.scene_at(moment), rows).accepts(paper), True)
        self.assertGreater(min(counts.values()), 5)


class FoundPaperTest(unittest.TestCase):
    def test_each_fall(self):
        dice = random.Random(108)
        lengths = set()
        for _ in range(15):
            house = House(LITTLE, shop_books(dice))
            for _ in range(dice.randint(1, 4)):
                do_step(house, step_for(dice, house.store))
            for fallen in falls_of(house.disk, thresholds(house.disk)):
                paper = check_unchanged(self, found_paper, fallen)
                number = last_found(fallen)
                records = read_records(fallen.read("log"))
                self.assertEqual(len(paper), len(records) - 1 - number)
                for name, record in zip(paper, records[number + 1:]):
                    lacking = [told for told, length in record.files.items()
                               if told not in fallen.all_files() or fallen.length(told) < length]
                    self.assertEqual(name, sorted(lacking)[0])
                self.assertIs(FoundClaim(fallen, number).accepts(paper), True)
                lengths.add(len(paper))
        self.assertGreater(len(lengths), 2)

    def test_by_hand(self):
        house = House(LITTLE, shop_books())
        house.commit({"sales": [(5,)]})
        house.commit({"sales": [(7,)]})
        self.assertEqual(found_paper(house.disk), [])
        log = {"log": house.disk.length("log")}
        self.assertEqual(found_paper(house.disk.fall(log)), ["*.money.0"] * 2)
        self.assertEqual(found_paper(house.disk.fall({**log, "*.money.0": 4})), ["sales.*.0", "*.money.0"])
        self.assertEqual(found_paper(house.disk.fall({**log, "*.money.0": 6, "sales.*.0": 99})), ["sales.price.0"] * 2)
        self.assertEqual(found_paper(house.disk.fall({})), [])
        self.assertEqual(found_records(house.disk.fall({})), [0])

    def test_lost(self):
        check_raises(self, Lost, {}, found_paper, Disk())
        disk = House(LITTLE, shop_books()).disk.fall({})
        disk.strike("sales.*.0")
        check_raises(self, Lost, {}, found_paper, disk)

    def test_boxes_hold_what_they_cover(self):
        question = read_question("from t where a < 4 and c < 9 tell a", PEOPLE)
        scene = people()
        numbers = {column: scene.table_named("t").numbers_of(column) for column in ("a", "c")}
        for start, end, reason, box in answer_paper(question, scene)["t"]:
            for place in range(start, end):
                self.assertTrue(in_box({column: own[place] for column, own in numbers.items()}, box))


if __name__ == "__main__":
    unittest.main()
