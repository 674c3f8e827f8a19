import random
import unittest

from colonnade.plainly import chosen_rows, plain_answer
from colonnade.reading import read_question
from colonnade.shapes import Shapes

from tests.asking import SHAPES, question_for, rows_for
from tests.helpers import check_unchanged

ROWS = {
    "sales": [("rome", 5, 1, 10, 1), ("oslo", 7, 7, 20, 1), ("rome", 5, 9, 30, 2), ("bonn", 1, 2, 40, 3),
              ("oslo", 0, 2, 50, 1)],
    "shops": [("oslo", "ada", 7, 1), ("rome", "bob", 5, 2), ("oslo", "cyd", 0, 3), ("paris", "ada", 9, 4)],
    "staff": [("ada", "rome", 3), ("bob", "oslo", 4), ("ada", "paris", 5)],
}


def answer(text, rows=None):
    return plain_answer(read_question(text, SHAPES), ROWS if rows is None else rows)


def slow_answer(question, rows):
    """Work the answer out in another way: by loops over all combinations, and comparing by pairs."""
    joined = [{}]
    for at, table in enumerate(question.tables):
        columns = question.shapes.columns_of(table)
        longer = []
        for row in joined:
            for other in rows.get(table, []):
                whole = {**row, **{column: other[k] for k, column in enumerate(columns)}}
                if at == 0 or whole[question.joins[at - 1][0]] == whole[question.joins[at - 1][1]]:
                    longer.append(whole)
        joined = longer
    chosen = [row for row in joined if not [test for test in question.tests if not test.holds(row)]]
    groups = []
    for row in chosen:
        like = [group for group in groups if all(group[0][name] == row[name] for name in question.groups)]
        if question.grouped and like:
            like[0].append(row)
        else:
            groups.append([row])

    def told(group, what, column):
        entries = [row.get(column) for row in group]
        return {"column": lambda: entries[0], "count": lambda: len(entries),
                "distinct": lambda: len({str(entry) for entry in entries}), "least": lambda: sorted(entries)[0],
                "greatest": lambda: sorted(entries)[-1], "sum": lambda: sum(entries)}[what]()

    def comes_before(one, other):
        for what, column, down in question.sorts:
            first, second = told(one, what, column), told(other, what, column)
            if first != second:
                return (first > second) == down
        return False

    ordered = []
    for group in groups:
        at = len(ordered)
        while at > 0 and comes_before(group, ordered[at - 1]):
            at -= 1
        ordered.insert(at, group)
    cut = ordered if question.most is None else ordered[:question.most]
    return [tuple([told(group, what, column) for what, column in question.tells]) for group in cut]


class AnswerTest(unittest.TestCase):
    def test_columns(self):
        self.assertEqual(answer("from sales tell city, many, city"), [
            ("rome", 10, "rome"), ("oslo", 20, "oslo"), ("rome", 30, "rome"), ("bonn", 40, "bonn"),
            ("oslo", 50, "oslo")])

    def test_joins(self):
        self.assertEqual(answer("from sales join shops on city = town tell many, floor"),
                         [(10, 2), (20, 1), (20, 3), (30, 2), (50, 1), (50, 3)])
        self.assertEqual(answer("from shops join sales on town = city tell floor, many"),
                         [(1, 20), (1, 50), (2, 10), (2, 30), (3, 20), (3, 50)])
        self.assertEqual(answer("from sales join shops on price = floor tell many"), [(40,)])
        self.assertEqual(answer("from sales join staff on city = name tell many"), [])
        self.assertEqual(answer("from sales join shops on city = town join staff on owner = name tell many, floor, pay"),
                         [(10, 2, 4), (20, 1, 3), (20, 1, 5), (30, 2, 4), (50, 1, 3), (50, 1, 5)])
        self.assertEqual(answer("from shops join staff on owner = name join sales on home = city tell floor, pay, many"),
                         [(1, 3, 10), (1, 3, 30), (2, 4, 20), (2, 4, 50), (4, 3, 10), (4, 3, 30)])

    def test_tables_without_rows(self):
        for rows in ({}, {"sales": []}, {"shops": ROWS["shops"]}):
            self.assertEqual(answer("from sales tell city", rows), [])
            self.assertEqual(answer("from sales tell count", rows), [])
            self.assertEqual(answer("from sales group city tell city, count", rows), [])
        self.assertEqual(answer("from sales join shops on city = town tell count", {"sales": ROWS["sales"]}), [])

    def test_signs(self):
        for sign, many in (("=", [10, 30]), ("<>", [20, 40, 50]), ("<", [40, 50]), ("<=", [10, 30, 40, 50]),
                           (">", [20]), (">=", [10, 20, 30])):
            self.assertEqual(answer(f"from sales where price {sign} 5 tell many"), [(value,) for value in many])
        for sign, many in (("=", [20]), ("<>", [10, 30, 40, 50]), ("<", [30, 40, 50]), (">=", [10, 20])):
            self.assertEqual(answer(f"from sales where price {sign} cost tell many"), [(value,) for value in many])
        self.assertEqual(answer("from sales where city < 'oslo' tell many"), [(40,)])
        self.assertEqual(answer("from sales where city in ('oslo', 'x') and not price = 0 tell many"), [(20,)])
        self.assertEqual(answer("from sales where price in (0, 1) or cost = 9 tell many"), [(30,), (40,), (50,)])
        self.assertEqual(answer("from sales join shops on city = town where price = rent tell many, floor"),
                         [(10, 2), (20, 1), (30, 2), (50, 3)])

    def test_groups(self):
        self.assertEqual(answer("from sales group city tell city, count, distinct price, least many, greatest cost, "
                                "sum price"),
                         [("rome", 2, 1, 10, 9, 10), ("oslo", 2, 2, 20, 7, 7), ("bonn", 1, 1, 40, 2, 1)])
        self.assertEqual(answer("from sales group day, city tell count, city"),
                         [(1, "rome"), (2, "oslo"), (1, "rome"), (1, "bonn")])
        self.assertEqual(answer("from sales tell count, sum price, least city, greatest city"),
                         [(5, 18, "bonn", "rome")])
        self.assertEqual(answer("from sales where price > 99 tell count, sum price"), [])
        self.assertEqual(answer("from sales group city tell city"), [("rome",), ("oslo",), ("bonn",)])

    def test_keys(self):
        self.assertEqual(answer("from sales tell many order price"), [(50,), (40,), (10,), (30,), (20,)])
        self.assertEqual(answer("from sales tell many order price down"), [(20,), (10,), (30,), (40,), (50,)])
        self.assertEqual(answer("from sales tell many order city down, price"), [(10,), (30,), (50,), (20,), (40,)])
        self.assertEqual(answer("from sales tell many order day down, city, many down"),
                         [(40,), (30,), (50,), (20,), (10,)])
        self.assertEqual(answer("from sales group city tell city order count down, sum price"),
                         [("oslo",), ("rome",), ("bonn",)])
        self.assertEqual(answer("from sales group city tell city order distinct price"),
                         [("rome",), ("bonn",), ("oslo",)])
        self.assertEqual(answer("from sales group city tell city order least many down"),
                         [("bonn",), ("oslo",), ("rome",)])

    def test_first_and_at(self):
        self.assertEqual(answer("from sales tell many first 2"), [(10,), (20,)])
        self.assertEqual(answer("from sales tell many order price first 1 at 7"), [(50,)])
        self.assertEqual(answer("from sales tell many first 99 at 0"), answer("from sales tell many"))

    def test_against_another_way(self):
        dice = random.Random(7)
        for _ in range(400):
            question = question_for(dice)
            rows = rows_for(dice, SHAPES, 5)
            self.assertEqual(plain_answer(question, rows), slow_answer(question, rows), question.text)

    def test_arguments_stay(self):
        question = read_question("from sales join shops on city = town group city tell count order city", SHAPES)
        for call in (plain_answer, chosen_rows):
            check_unchanged(self, call, question, {table: list(rows) for table, rows in ROWS.items()})
        found = plain_answer(question, ROWS)
        found.clear()
        self.assertEqual(len(plain_answer(question, ROWS)), 2)


class ChosenTest(unittest.TestCase):
    def test_all_columns(self):
        question = read_question("from sales join shops on city = town where price < 5 tell count", SHAPES)
        sale = {"city": "oslo", "price": 0, "cost": 2, "many": 50, "day": 1}
        self.assertEqual(chosen_rows(question, ROWS), [
            {**sale, "town": "oslo", "owner": "ada", "rent": 7, "floor": 1},
            {**sale, "town": "oslo", "owner": "cyd", "rent": 0, "floor": 3}])
        self.assertEqual(chosen_rows(question, {}), [])

    def test_rows_are_new(self):
        shapes = Shapes([("t", [("a", "number", "")])])
        rows = {"t": [(1,), (2,)]}
        question = read_question("from t tell a", shapes)
        found = chosen_rows(question, rows)
        found[0]["a"] = 9
        self.assertEqual(chosen_rows(question, rows), [{"a": 1}, {"a": 2}])


if __name__ == "__main__":
    unittest.main()
