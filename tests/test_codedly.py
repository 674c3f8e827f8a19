import itertools
import random
import unittest

from colonnade.books import Book
from colonnade.codedly import STAGES, coded_answer, stage_after
from colonnade.errors import NoValue
from colonnade.needs import Needs
from colonnade.plainly import plain_answer
from colonnade.reading import read_question
from colonnade.shapes import Shapes
from colonnade.translating import on_codes

from tests.asking import SHAPES, books_for, question_for, rows_for
from tests.helpers import check_raises, check_unchanged


def told_answer(question, books, rows, openings):
    """Work the coded answer out by the words of point 29, with all combinations of rows at hand."""
    shapes = question.shapes

    def book_at(column, stage):
        name = shapes.book_of(column)
        return books[name] if name and STAGES.index(openings[name]) > STAGES.index(stage) else None

    def at_stage(row, stage):
        """Return the entries of a row of values as they stand at the stage."""
        return {name: book_at(name, stage).code_of(value) if book_at(name, stage) else value
                for name, value in row.items()}

    def holds(test, row, stage):
        translated = on_codes(test, {name: book_at(name, stage) for name in test.columns_used()})
        return translated.holds(at_stage(row, stage))

    def meets(row, one, other):
        if shapes.book_of(one) == shapes.book_of(other):
            entries = at_stage(row, "join")
            return entries[one] == entries[other]
        return row[one] == row[other]

    def entry(group, what, column, stage):
        if what == "count":
            return len(group)
        made = book_at(column, "group")
        entries = [at_stage(row, "group")[column] for row in group]
        if what == "distinct":
            return len(set(entries))
        if what == "sum":
            if made and not book_at(column, stage):
                value, code = made.entries[0]
                return sum(entries) + len(group) * (value - code)
            return sum(entries)
        found = {"column": entries[0], "least": min(entries), "greatest": max(entries)}[what]
        return made.value_of(found) if made and not book_at(column, stage) else found

    kept = []
    for table in question.tables:
        columns = shapes.columns_of(table)
        named = [name for name in columns if name in question.columns_named()]
        whole = [dict(zip(columns, row)) for row in rows.get(table, [])]
        own = [{name: row[name] for name in named} for row in whole]
        kept.append([row for row in own if all(holds(test, row, "scan") for test in question.scan_tests(table))])
    joined = []
    for rows_together in itertools.product(*kept):
        row = {name: value for part in rows_together for name, value in part.items()}
        if all(meets(row, one, other) for one, other in question.joins):
            joined.append(row)
    chosen = [row for row in joined if all(holds(test, row, "cross") for test in question.cross_tests())]
    groups = {}
    for at, row in enumerate(chosen):
        key = tuple([at_stage(row, "group")[name] for name in question.groups]) if question.grouped else at
        groups.setdefault(key, []).append(row)
    results = list(groups.values())
    for what, column, down in reversed(question.sorts):
        results.sort(key=lambda group: entry(group, what, column, "order"), reverse=down)
    return [tuple([entry(group, what, column, "tell") for what, column in question.tells])
            for group in results[:question.most]]


class StagesTest(unittest.TestCase):
    def test_stages(self):
        self.assertEqual(STAGES, ("scan", "join", "cross", "group", "order", "tell"))
        self.assertEqual([stage_after(stage) for stage in STAGES], ["join", "cross", "group", "order", "tell", "tell"])


class AnswerTest(unittest.TestCase):
    shapes = Shapes([("t", [("a", "number", "b"), ("c", "number", "")]), ("u", [("d", "number", "b"),
                     ("e", "number", "f"), ("g", "number", "")])])
    swapped = Book("number", 1, [(1, 9), (2, 3), (5, 4)])
    shifted = Book("number", 30, [(1, 11), (2, 12), (5, 15)])
    spread = Book("number", 30, [(1, 10), (2, 13), (5, 14)])

    def answers(self, text, book, rows, other=None):
        question = read_question(text, self.shapes)
        books = {"b": book, "f": other or book}
        found = []
        for stage in STAGES:
            openings = {name: stage for name in question.books_named()}
            found.append(check_unchanged(self, coded_answer, question, books, rows, openings))
        return found

    def test_scan(self):
        rows = {"t": [(1, 10), (2, 20), (5, 30)]}
        self.assertEqual(self.answers("from t where a < 2 tell a", self.spread, rows), [[(1,)]] * 6)
        # With the codes 9, 3 and 4, no code is below that of 2.
        self.assertEqual(self.answers("from t where a < 2 tell a", self.swapped, rows), [[(1,)]] + [[]] * 5)
        self.assertEqual(self.answers("from t where a < 5 tell c", self.swapped, rows),
                         [[(10,), (20,)]] + [[(20,)]] * 5)
        self.assertEqual(self.answers("from t where a > 5 tell c", self.swapped, rows), [[]] + [[(10,)]] * 5)

    def test_joins(self):
        rows = {"t": [(1, 2), (2, 10), (5, 12)], "u": [(5, 1, 10), (1, 5, 12), (1, 2, 2)]}
        for book in (self.swapped, self.shifted):
            same = self.answers("from t join u on a = d tell c, g", book, rows)
            self.assertEqual(same, [[(2, 12), (2, 2), (12, 10)]] * 6)
            unlike = self.answers("from t join u on a = e tell c, g", book, rows, self.spread)
            self.assertEqual(unlike, [[(2, 10), (10, 2), (12, 12)]] * 6)
            one = self.answers("from t join u on c = e tell a, g", book, rows, self.spread)
            self.assertEqual(one, [[(1, 2)]] * 6)
            other = self.answers("from u join t on d = c tell g, a", book, {**rows, "t": [(2, 5), (5, 13)]})
            self.assertEqual(other, [[(10, 2)]] * 6)
            none = self.answers("from t join u on c = g tell a", book, rows)
            self.assertEqual(none, [[(1,), (2,), (5,)]] * 6)

    def test_joins_of_books_opened_at_different_stages(self):
        rows = {"t": [(1, 2), (2, 10)], "u": [(5, 1, 10), (1, 2, 12)]}
        question = read_question("from t join u on a = e tell c, g", self.shapes)
        for stages in itertools.product(STAGES, repeat=2):
            openings = dict(zip(("b", "f"), stages))
            books = {"b": self.swapped, "f": self.spread}
            self.assertEqual(coded_answer(question, books, rows, openings), [(2, 10), (10, 12)])

    def test_cross(self):
        rows = {"t": [(1, 7), (5, 7)], "u": [(2, 1, 7)]}
        self.assertEqual(self.answers("from t join u on c = g where a < d tell a", self.swapped, rows),
                         [[(1,)]] * 3 + [[]] * 3)
        self.assertEqual(self.answers("from t join u on c = g where a < 2 or g = 0 tell a", self.spread, rows),
                         [[(1,)]] * 6)

    def test_groups(self):
        rows = {"t": [(1, 7), (5, 7), (2, 7), (2, 8)]}
        text = "from t group c tell c, least a, greatest a, distinct a, sum a, count"
        plain = [(7, 1, 5, 3, 8, 3), (8, 2, 2, 1, 2, 1)]
        self.assertEqual(self.answers(text, self.shifted, rows), [plain] * 6)
        # The sums of the codes 10 + 14 + 13 and 13 are brought back by three times and once 1 - 10.
        late = [(7, 1, 5, 3, 10, 3), (8, 2, 2, 1, 4, 1)]
        self.assertEqual(self.answers(text, self.spread, rows), [plain] * 4 + [late] * 2)
        # The codes are 9, 4, 3 and 3: the least one stands for 2, the greatest one for 1.
        late = [(7, 2, 1, 3, 9 + 4 + 3 + 3 * (1 - 9), 3), (8, 2, 2, 1, 3 + 1 - 9, 1)]
        self.assertEqual(self.answers(text, self.swapped, rows), [plain] * 4 + [late] * 2)

    def test_order(self):
        rows = {"t": [(5, 1), (1, 2), (2, 3)]}
        self.assertEqual(self.answers("from t tell c order a", self.spread, rows), [[(2,), (3,), (1,)]] * 6)
        self.assertEqual(self.answers("from t tell a order a first 2", self.swapped, rows),
                         [[(1,), (2,)]] * 5 + [[(2,), (5,)]])
        self.assertEqual(self.answers("from t tell a order a down first 1", self.swapped, rows),
                         [[(5,)]] * 5 + [[(1,)]])
        rows = {"t": [(5, 1), (2, 2), (2, 2)]}
        plain = [(2, 4), (1, 5)]
        self.assertEqual(self.answers("from t group c tell c, sum a order sum a", self.shifted, rows),
                         [plain] * 5 + [plain[::-1]])

    def test_keys_that_are_no_items(self):
        rows = {"t": [(5, 1), (1, 2), (1, 1)]}
        self.assertEqual(self.answers("from t group c tell c order distinct a down, least a", self.spread, rows),
                         [[(1,), (2,)]] * 6)

    def test_strays(self):
        book = Book("word", 3, [("a", 1), ("b", 8), ("c", 2)])
        self.assertEqual(book.keeps, "same")
        question = read_question("from sales where city >= 'b' tell city, many", SHAPES)
        rows = {"sales": [(word, 0, 0, at, 0) for at, word in enumerate("cab")]}
        openings = {"places": "tell"}
        # Only the code 8 is not below the bound of b.
        self.assertEqual(coded_answer(question, {"places": book}, rows, openings), [("b", 2)])
        self.assertEqual(coded_answer(question, {"places": book}, rows, {"places": "scan"}), [("c", 0), ("b", 2)])

    def test_tables_without_rows(self):
        for rows in ({}, {"t": []}, {"u": [(1, 1, 1)]}):
            for text in ("from t tell a", "from t tell sum a", "from t group c tell c, least a"):
                self.assertEqual(self.answers(text, self.swapped, rows), [[]] * 6)
        for rows in ({"t": [(1, 1)]}, {"u": [(1, 1, 1)]}):
            self.assertEqual(self.answers("from t join u on a = d tell count", self.swapped, rows), [[]] * 6)

    def test_books_of_other_columns_are_not_needed(self):
        question = read_question("from sales where price = 5 tell price", SHAPES)
        rows = {"sales": [("Nowhere", 5, "?", 0, None)], "shops": "not looked at"}
        book = Book("number", 9, [(5, 2)])
        self.assertEqual(coded_answer(question, {"money": book}, rows, {"money": "tell", "places": "?"}), [(5,)])


class NoValueTest(unittest.TestCase):
    def test_first_value(self):
        question = read_question("from shops join sales on town = city where rent = cost tell count", SHAPES)
        books = {"places": Book("word", 9, [("rome", 2), ("oslo", 1)]), "money": Book("number", 9, [(1, 1), (5, 2)])}
        rows = {"sales": [("rome", 99, 1, 0, 0), ("oslo", 0, 5, 0, 0)], "shops": [("rome", "x", 1, 0)],
                "staff": [("who", "where", 0)]}
        openings = {"places": "scan", "money": "tell"}
        self.assertEqual(coded_answer(question, books, rows, openings), [(1,)])
        cases = (
            ("x", {"shops": [("rome", "x", 1, 0), ("x", "x", 7, 0)], "sales": [("y", 0, 9, 0, 0)]}),
            (7, {"shops": [("rome", "x", 7, 0), ("x", "x", 1, 0)], "sales": [("y", 0, 9, 0, 0)]}),
            ("y", {"shops": [("rome", "x", 1, 0)], "sales": [("y", 0, 9, 0, 0)]}),
            (9, {"sales": [("rome", 0, 9, 0, 0), ("y", 0, 9, 0, 0)]}),
        )
        for value, wrong in cases:
            check_raises(self, NoValue, {"value": value}, coded_answer, question, books, wrong, openings)


class RandomTest(unittest.TestCase):
    def test_any_openings_by_the_words(self):
        dice = random.Random(8)
        for _ in range(400):
            question = question_for(dice)
            books, rows = books_for(dice, SHAPES), rows_for(dice, SHAPES)
            openings = {name: dice.choice(STAGES) for name in question.books_named()}
            self.assertEqual(coded_answer(question, books, rows, openings),
                             told_answer(question, books, rows, openings), (question.text, openings))

    def test_openings_in_time_give_the_plain_answer(self):
        dice = random.Random(9)
        for _ in range(400):
            question = question_for(dice)
            books, rows = books_for(dice, SHAPES), rows_for(dice, SHAPES)
            kept = {name: book.keeps for name, book in books.items()}
            latest = Needs(question).latest_openings(kept)
            earlier = {name: STAGES[dice.randint(0, STAGES.index(stage))] for name, stage in latest.items()}
            for openings in (latest, earlier):
                self.assertEqual(coded_answer(question, books, rows, openings), plain_answer(question, rows),
                                 (question.text, openings))


if __name__ == "__main__":
    unittest.main()
