import random
import unittest

from colonnade.codedly import STAGES, coded_answer, stage_after
from colonnade.errors import NoBook, NoSlip, TooHeavy
from colonnade.needs import Needs
from colonnade.patterns import test_need, test_weight
from colonnade.plainly import plain_answer
from colonnade.questions import Question
from colonnade.reading import read_question
from colonnade.relations import is_enough
from colonnade.slips import Slip, slip_for

from tests.asking import SHAPES, question_for
from tests.helpers import check_raises, check_unchanged

KEPT = ("same", "order", "distance")
GROUP_NEEDS = {"least": "order", "greatest": "order", "sum": "distance"}
ORDER_NEEDS = {"column": "order", "least": "order", "greatest": "order", "sum": "value"}


def ask(text):
    return read_question(text, SHAPES)


def tests_at(question, stage):
    if stage == "cross":
        return question.cross_tests()
    return [test for test in question.tests if test in question.scan_tests(SHAPES.table_of(test.columns_used()[0]))]


def first_step(question, book, stage, kept):
    """Return the first step that needs more: a test, or a word for what an item or a key asks, or None."""
    if stage in ("scan", "cross"):
        wrong = [test for test in tests_at(question, stage) if not is_enough(kept, test_need(test, SHAPES, book))]
        return wrong[0] if wrong else None
    keys = [(what, column) for what, column, down in question.sorts]
    needs, pairs = (GROUP_NEEDS, [*question.tells, *keys]) if stage == "group" else (ORDER_NEEDS, keys)
    if stage not in ("group", "order") or stage == "group" and not question.grouped:
        return None
    wrong = [what for what, column in pairs if column and SHAPES.book_of(column) == book
             and not is_enough(kept, needs.get(what, "none"))]
    return wrong[0] if wrong else None


class SlipTest(unittest.TestCase):
    def check_slip(self, slip, question, stage, kept, step):
        asked, book = slip.question, slip.book
        self.assertIs(slip.__class__, Slip)
        self.assertIs(asked.__class__, Question)
        self.assertEqual(slip.books[book].keeps, kept)
        self.assertLessEqual(set(asked.books_named()), set(slip.books))
        for name in slip.books:
            self.assertEqual(slip.books[name].domain, asked.shapes.domain_of_book(name))
            if name != book:
                self.assertEqual(slip.books[name].keeps, "order")
        self.assertEqual(slip.openings, {name: stage_after(stage) if name == book else "tell"
                                         for name in asked.books_named()})
        self.assertLessEqual(sum([len(rows) for rows in slip.rows.values()]), 3)
        self.assertLessEqual(set(slip.rows), set(asked.shapes.tables))
        self.assertNotEqual(coded_answer(asked, slip.books, slip.rows, slip.openings), plain_answer(asked, slip.rows))
        self.assertFalse(is_enough(kept, Needs(asked).need_at(book, stage)))
        if stage in ("scan", "cross"):
            tests = asked.cross_tests() if stage == "cross" else [
                test for table in asked.tables for test in asked.scan_tests(table)]
            self.assertIn("order", [test_need(test, asked.shapes, book) for test in tests])
        else:
            pairs = [(what, column) for what, column, down in asked.sorts]
            pairs = pairs if stage == "order" else [*asked.tells, *pairs]
            self.assertIn(step, [what for what, column in pairs if column and asked.shapes.book_of(column) == book])
        # Nothing else is wrong: opened one stage earlier, or with a book that keeps enough, all goes well.
        earlier = {**slip.openings, book: stage}
        self.assertEqual(coded_answer(asked, slip.books, slip.rows, earlier), plain_answer(asked, slip.rows))

    def check(self, text, book, stage, kept, step=None):
        question = ask(text)
        slip = check_unchanged(self, slip_for, question, book, stage, kept)
        self.check_slip(slip, question, stage, kept, step)

    def test_scan_tests(self):
        for test in ("city < 'rome'", "city <= 'a'", "not city >= 'x'", "city = 'b' and city > 'x' or city < 'c'",
                     "city < 'zzzzzzzz' and city <> 'b'", "city > 'b' and many > 5", "city > 'b' and price < cost",
                     "city < 'b' and price = 7 and day = 1", "many = 1 or city >= 'b'", "city in ('b', 'c') or city < 'd'"):
            self.check(f"from sales where {test} tell many", "places", "scan", "same")
        for test in ("price < cost", "price < 5", "price > cost and city = 'x'", "cost <= -999999999",
                     "price >= 999999999", "price < 5 or price = 8", "price < 3 and cost < 3", "price < cost or price = 7"):
            self.check(f"from sales where many = 4 and {test} tell many", "money", "scan", "same")
        self.check("from sales join shops on city = town where rent = 5 and rent < 7 and price < 8 tell many",
                   "money", "scan", "same")

    def test_cross_tests(self):
        for test in ("price < rent", "city < town or many = 5", "price < 5 or floor = 1", "price < rent and floor < many",
                     "price <= rent and city = town", "not (price <= rent and many = 5)"):
            book = "places" if test == "city < town or many = 5" else "money"
            self.check(f"from sales join shops on city = town where {test} tell many", book, "cross", "same")
        three = "from sales join shops on city = town join staff on city = home where {} tell many"
        for test in ("price < rent and pay = 5", "home = 'b' or price > rent", "price < 5 or floor < pay"):
            self.check(three.format(test), "money", "cross", "same")
        self.check(three.format("city < home and owner = 'b'"), "places", "cross", "same")

    def test_group_steps(self):
        for what in ("least", "greatest"):
            self.check(f"from sales tell {what} city", "places", "group", "same", what)
            self.check(f"from sales tell distinct price, {what} price", "money", "group", "same", what)
            self.check(f"from sales group many tell many order count, {what} price", "money", "group", "same", what)
        for kept in ("same", "order"):
            self.check("from sales tell count, sum price", "money", "group", kept, "sum")
            self.check("from sales group many tell many order sum price", "money", "group", kept, "sum")
        # The items come first, then the keys.
        self.check("from sales group many tell greatest cost order sum price", "money", "group", "order", "sum")
        self.check("from sales group many tell greatest cost order sum price", "money", "group", "same", "greatest")

    def test_order_steps(self):
        self.check("from sales tell many order city", "places", "order", "same", "column")
        self.check("from sales group city tell city order count, city down", "places", "order", "same", "column")
        for what in ("least", "greatest"):
            self.check(f"from sales group many tell many order {what} city", "places", "order", "same", what)
        for kept in KEPT:
            self.check("from sales group many tell many order sum price down", "money", "order", kept, "sum")
        self.check("from sales group many tell many order least cost, sum price", "money", "order", "same", "least")
        self.check("from sales group many tell many order least cost, sum price", "money", "order", "order", "sum")

    def test_names_that_are_taken(self):
        shapes_text = "from staff join shops on name = owner where pay < 5 and home < town tell pay"
        self.check(shapes_text, "places", "cross", "same")
        self.check("from sales tell many order day", "days", "order", "same", "column")

    def test_no_book(self):
        question = ask("from sales where city < 'rome' tell many")
        for stage in STAGES:
            for book in ("money", "", "nothing", "city"):
                check_raises(self, NoBook, {"name": book}, slip_for, question, book, stage, "same")

    def test_no_slip(self):
        text = "from sales where city = 'x' and price < 5 group day tell day, least city, sum cost order day, least city"
        for book, stage, kept in (
            ("places", "scan", "same"), ("places", "scan", "order"), ("money", "scan", "order"),
            ("money", "cross", "same"), ("places", "join", "same"), ("places", "tell", "same"),
            ("places", "group", "order"), ("places", "group", "distance"), ("money", "group", "distance"),
            ("days", "group", "same"), ("money", "order", "same"), ("days", "order", "order"),
            ("places", "order", "distance"),
        ):
            check_raises(self, NoSlip, {"book": book, "stage": stage}, slip_for, ask(text), book, stage, kept)
        question = ask("from sales join shops on city = town tell city order city")
        for kept in KEPT:
            for stage in ("join", "tell", "group"):
                check_raises(self, NoSlip, {"book": "places", "stage": stage}, slip_for, question, "places", stage, kept)

    def test_too_heavy(self):
        heavy = "city < 'b' or city in ('b', 'c', 'd', 'e', 'f')"
        question = ask(f"from sales where city = 'x' and ({heavy}) tell many")
        check_raises(self, TooHeavy, {"weight": 6}, slip_for, question, "places", "scan", "same")
        check_raises(self, NoSlip, {"book": "places", "stage": "scan"}, slip_for, question, "places", "scan", "order")
        # Only the first step that needs more counts.
        self.check(f"from sales where city <> 'x' and city < 'b' and ({heavy}) tell many", "places", "scan", "same")
        question = ask(f"from sales where ({heavy}) and city < 'b' tell many")
        check_raises(self, TooHeavy, {"weight": 6}, slip_for, question, "places", "scan", "same")
        question = ask("from sales where city in ('a', 'b', 'c', 'd', 'e', 'f') tell many")
        check_raises(self, NoSlip, {"book": "places", "stage": "scan"}, slip_for, question, "places", "scan", "same")

    def test_random_questions(self):
        dice = random.Random(15)
        found = {}
        for _ in range(500):
            question = question_for(dice)
            for book in question.books_named():
                for stage in STAGES:
                    for kept in KEPT:
                        step = first_step(question, book, stage, kept)
                        told = (book, stage, kept)
                        if step is None:
                            check_raises(self, NoSlip, {"book": book, "stage": stage}, slip_for, question, *told)
                        elif stage in ("scan", "cross") and test_weight(step, SHAPES) > 5:
                            weight = test_weight(step, SHAPES)
                            check_raises(self, TooHeavy, {"weight": weight}, slip_for, question, *told)
                        else:
                            self.check_slip(slip_for(question, *told), question, stage, kept, step)
                            found[(stage, kept)] = found.get((stage, kept), 0) + 1
        self.assertEqual(set(found), {("scan", "same"), ("cross", "same"), ("group", "same"), ("group", "order"),
                                      ("order", "same"), ("order", "order"), ("order", "distance")})


if __name__ == "__main__":
    unittest.main()
