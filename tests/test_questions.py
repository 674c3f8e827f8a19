import random
import unittest

from colonnade.errors import BadConstant, BadItem, Mismatch, NoColumn, NoTable, Twice
from colonnade.filters import Compare, Every, Opposite, Pair, Some, Within
from colonnade.questions import Question
from colonnade.reading import read_question

from tests.asking import SHAPES, question_for
from tests.helpers import check_raises, check_unchanged

CHEAP = Compare("price", "<", 40)
ROME = Compare("city", "=", "rome")


def ask(tables=("sales",), joins=(), tests=(), groups=(), tells=(("count", ""),), sorts=(), most=None, moment=None,
        shapes=SHAPES):
    return Question(shapes, list(tables), list(joins), list(tests), list(groups), list(tells), list(sorts),
                    most, moment)


class WrittenFormTest(unittest.TestCase):
    def check(self, text, *arguments, **named):
        question = ask(*arguments, **named)
        self.assertEqual(question.text, text)
        self.assertEqual(str(question), text)
        self.assertEqual(read_question(text, SHAPES).text, text)

    def test_items(self):
        self.check("from sales tell count")
        self.check("from sales tell city, price", tells=[("column", "city"), ("column", "price")])
        self.check("from sales tell count, distinct city, least city, greatest price, sum cost", tells=[
            ("count", ""), ("distinct", "city"), ("least", "city"), ("greatest", "price"), ("sum", "cost")])

    def test_joins(self):
        self.check("from sales join shops on city = town join staff on owner = name tell count",
                   ("sales", "shops", "staff"), [("city", "town"), ("owner", "name")])

    def test_tests(self):
        self.check("from sales where price < 40 tell count", tests=[CHEAP])
        self.check("from sales where price < 40 and city = 'rome' tell count", tests=[CHEAP, ROME])
        self.check("from sales where price < 40 or city = 'rome' tell count", tests=[CHEAP | ROME])
        self.check("from sales where (price < 40 or city = 'rome') and not (price < 40 and city = 'rome') tell count",
                   tests=[CHEAP | ROME, ~(CHEAP & ROME)])
        self.check("from sales where price in (1, 2, 5) and price >= cost tell count",
                   tests=[Within("price", [5, 1, 2, 1]), Pair("price", ">=", "cost")])

    def test_groups_keys_first_and_at(self):
        self.check("from sales group city, day tell city order day down, sum price, count down first 3 at 0",
                   groups=["city", "day"], tells=[("column", "city")],
                   sorts=[("column", "day", True), ("sum", "price", False), ("count", "", True)], most=3, moment=0)
        self.check("from sales tell price order price at 999", tells=[("column", "price")],
                   sorts=[("column", "price", False)], moment=999)

    def test_every_is_replaced_by_its_parts(self):
        question = ask(tests=[Every([CHEAP, ROME]), CHEAP | ROME, Every([ROME, CHEAP])])
        self.assertEqual([test.text for test in question.tests],
                         [CHEAP.text, ROME.text, (CHEAP | ROME).text, ROME.text, CHEAP.text])
        self.assertEqual(read_question(question.text, SHAPES).text, question.text)

    def test_attributes(self):
        tables, joins, tests = ["sales", "shops"], [("city", "town")], [CHEAP]
        groups, tells, sorts = ["city"], [("count", ""), ("column", "city")], [("column", "city", True)]
        question = check_unchanged(self, Question, SHAPES, tables, joins, tests, groups, tells, sorts, 5, 7)
        text = question.text
        for told in (tables, joins, tests, groups, tells, sorts):
            told.clear()
        self.assertIs(question.shapes, SHAPES)
        self.assertEqual((question.tables, question.joins), (("sales", "shops"), (("city", "town"),)))
        self.assertEqual((question.tests, question.groups), ((CHEAP,), ("city",)))
        self.assertEqual(question.tells, (("count", ""), ("column", "city")))
        self.assertEqual((question.sorts, question.most, question.moment), ((("column", "city", True),), 5, 7))
        self.assertEqual((question.text, str(question)), (text, text))
        self.assertIsNone(ask().most)
        self.assertIsNone(ask().moment)

    def test_grouped(self):
        self.assertIs(ask().grouped, True)
        self.assertIs(ask(tells=[("column", "city")]).grouped, False)
        self.assertIs(ask(tells=[("column", "city")], groups=["city"]).grouped, True)
        self.assertIs(ask(tells=[("least", "city")]).grouped, True)

    def test_random_questions_are_read_to_the_same_form(self):
        dice = random.Random(4)
        for _ in range(300):
            question = question_for(dice)
            again = read_question(question.text, SHAPES)
            self.assertEqual(again.text, question.text)
            self.assertEqual([test.text for test in again.tests], [test.text for test in question.tests])
            for name in ("tables", "joins", "groups", "tells", "sorts", "most", "moment"):
                self.assertEqual(getattr(again, name), getattr(question, name))


class MethodsTest(unittest.TestCase):
    def test_columns_and_books_named(self):
        question = ask(("sales", "shops"), [("city", "town")], [Pair("price", "<", "cost") | Compare("floor", "=", 1)],
                       ["day"], [("column", "day"), ("count", "")], [("sum", "rent", False), ("count", "", True)])
        self.assertEqual(question.columns_named(), ("city", "cost", "day", "floor", "price", "rent", "town"))
        self.assertEqual(question.books_named(), ("days", "money", "places"))
        self.assertEqual((ask().columns_named(), ask().books_named()), ((), ()))
        question = ask(tells=[("least", "many")])
        self.assertEqual((question.columns_named(), question.books_named()), (("many",), ()))

    def test_scan_and_cross_tests(self):
        apart, floor = Pair("price", ">", "rent"), Compare("floor", "=", 1)
        either = Some([ROME, Compare("town", "=", "oslo")])
        question = ask(("sales", "shops"), [("city", "town")], [CHEAP, apart, floor, ROME, either, ~CHEAP])
        texts = [test.text for test in question.scan_tests("sales")]
        self.assertEqual(texts, [CHEAP.text, ROME.text, (~CHEAP).text])
        self.assertEqual([test.text for test in question.scan_tests("shops")], [floor.text])
        self.assertEqual([test.text for test in question.cross_tests()], [apart.text, either.text])
        for table in ("staff", "nothing", ""):
            self.assertEqual(question.scan_tests(table), [])
        question.scan_tests("sales").clear()
        question.cross_tests().clear()
        self.assertEqual((len(question.scan_tests("sales")), len(question.cross_tests())), (3, 2))

    def test_with_tests(self):
        question = ask(("sales", "shops"), [("city", "town")], [CHEAP], ["day"], [("count", "")],
                       [("sum", "rent", True)], 4, 5)
        tests = [ROME & ~CHEAP]
        other = check_unchanged(self, question.with_tests, tests)
        self.assertEqual(other.text, question.text.replace("price < 40", "city = 'rome' and not price < 40"))
        self.assertEqual(len(other.tests), 2)
        self.assertEqual(question.tests, (CHEAP,))
        self.assertNotIn("where", question.with_tests([]).text)

    def test_with_tests_errors(self):
        question = ask(tests=[CHEAP])
        check_raises(self, NoColumn, {"name": "town"}, question.with_tests, [ROME, Compare("town", "=", "x")])
        check_raises(self, BadConstant, {"column": "city"}, question.with_tests, [Compare("city", "=", 1)])
        check_raises(self, Mismatch, {"first": "price", "second": "many"},
                     question.with_tests, [Pair("price", "=", "many")])
        self.assertEqual(question.text, ask(tests=[CHEAP]).text)


class ErrorsTest(unittest.TestCase):
    def check(self, kind, attributes, *arguments, **named):
        check_raises(self, kind, attributes, ask, *arguments, **named)

    def test_tables(self):
        self.check(NoTable, {"name": "city"}, ("city", "nope"), [("x", "y")])
        self.check(NoTable, {"name": "nope"}, ("sales", "sales", "nope"), [("x", "y"), ("x", "y")])
        self.check(Twice, {"name": "sales"}, ("sales", "shops", "sales"), [("x", "y"), ("x", "y")])

    def test_joins(self):
        two = ("sales", "shops")
        self.check(NoColumn, {"name": "nope"}, two, [("nope", "other")])
        self.check(NoColumn, {"name": "town"}, two, [("town", "city")])
        self.check(NoColumn, {"name": "city"}, two, [("city", "city")])
        self.check(NoColumn, {"name": "name"}, ("sales", "shops", "staff"), [("city", "name"), ("x", "y")])
        self.check(NoColumn, {"name": "home"}, ("sales", "shops", "staff"), [("home", "town"), ("x", "y")])
        self.check(Mismatch, {"first": "city", "second": "rent"}, two, [("city", "rent")], [Compare("x", "=", 1)])
        self.check(Mismatch, {"first": "price", "second": "name"}, ("sales", "shops", "staff"),
                   [("city", "town"), ("price", "name")])
        # A later join may begin at any table in front, and books need not be alike.
        ask(("sales", "shops", "staff"), [("many", "rent"), ("city", "name")])

    def test_leaves(self):
        for leaf in (Compare("nope", "=", 1), Pair("nope", "=", "other"), Within("nope", [1]),
                     Pair("price", "=", "nope"), Opposite(CHEAP & Compare("nope", "=", 1))):
            self.check(NoColumn, {"name": "nope"}, tests=[CHEAP, leaf], groups=["nothing"])
        self.check(NoColumn, {"name": "town"}, tests=[Compare("town", "=", 5)])
        for leaf, column in ((Compare("price", "<", "rome"), "price"), (Compare("city", "=", 4), "city"),
                             (Within("price", ["a"]), "price"), (Within("city", [1]), "city"),
                             (Compare("price", "=", True), "price"), (Compare("price", "=", 10 ** 9), "price"),
                             (Compare("city", "=", "Rome"), "city"), (Within("city", [""]), "city")):
            self.check(BadConstant, {"column": column}, tests=[leaf, Compare("nope", "=", 1)])
            self.check(BadConstant, {"column": column}, tests=[CHEAP | ~leaf])
        for leaf in (Pair("price", "<", "city"), Pair("price", "<", "many"), Pair("day", "=", "cost")):
            self.check(Mismatch, {"first": leaf.column, "second": leaf.other}, tests=[leaf, Compare("city", "=", 1)])
        self.check(NoColumn, {"name": "nope"}, tests=[Pair("price", "<", "nope"), Compare("city", "=", 1)])
        self.check(BadConstant, {"column": "city"}, tests=[Compare("city", "=", 1) & Pair("price", "<", "nope")])

    def test_groups(self):
        self.check(NoColumn, {"name": "town"}, groups=["city", "town", "city"], tells=[("column", "x")])
        self.check(Twice, {"name": "city"}, groups=["city", "day", "city", "nope"], tells=[("column", "x")])
        self.check(BadConstant, {"column": "city"}, tests=[Compare("city", "=", 1)], groups=["nope"])

    def test_items(self):
        for what in ("column", "distinct", "least", "greatest", "sum"):
            self.check(NoColumn, {"name": "town"}, tells=[("count", ""), (what, "town")], sorts=[("column", "x", True)])
        self.check(BadItem, {"what": "sum", "column": "city"}, tells=[("sum", "city"), ("column", "nope")])
        self.check(BadItem, {"what": "column", "column": "price"}, tells=[("column", "price"), ("count", "")])
        self.check(BadItem, {"what": "column", "column": "price"}, groups=["city"], tells=[("column", "price")])
        for what in ("distinct", "least", "greatest", "sum"):
            self.check(BadItem, {"what": what, "column": "day"}, groups=["city", "day"],
                       tells=[("column", "city"), (what, "day")])
        self.check(NoColumn, {"name": "x"}, tells=[("count", ""), ("sum", "x"), ("column", "city")])

    def test_keys(self):
        for what in ("column", "distinct", "least", "greatest", "sum"):
            self.check(NoColumn, {"name": "town"}, sorts=[("count", "", True), (what, "town", False)])
        self.check(BadItem, {"what": "sum", "column": "city"}, sorts=[("sum", "city", False), ("column", "x", False)])
        self.check(BadItem, {"what": "column", "column": "price"}, sorts=[("column", "price", False)])
        self.check(BadItem, {"what": "least", "column": "city"}, groups=["city"], sorts=[("least", "city", True)])
        for what, column in (("count", ""), ("distinct", "price"), ("least", "price"), ("sum", "price")):
            self.check(BadItem, {"what": what, "column": column}, tells=[("column", "city")],
                       sorts=[("column", "price", True), (what, column, False)])
        # Keys need not be items.
        self.assertEqual(ask(tells=[("column", "city")], sorts=[("column", "many", True)]).text,
                         "from sales tell city order many down")


if __name__ == "__main__":
    unittest.main()
