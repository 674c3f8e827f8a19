import unittest

from colonnade.plans import Plan, plain_plan
from colonnade.reading import read_question

from tests.asking import SHAPES
from tests.helpers import check_unchanged

QUESTION = read_question("from sales join shops on city=town where price<40 tell many at 3", SHAPES)


class PlanTest(unittest.TestCase):
    def test_attributes(self):
        openings = {"places": "tell", "money": "scan"}
        plan = check_unchanged(self, Plan, QUESTION, openings)
        self.assertIs(plan.question, QUESTION)
        self.assertEqual((plan.openings, plan.passing, plan.size), (openings, True, 8))
        openings.clear()
        self.assertEqual(plan.openings, {"places": "tell", "money": "scan"})
        plan = Plan(QUESTION, {}, passing=False, size=999)
        self.assertEqual((plan.openings, plan.passing, plan.size), ({}, False, 999))

    def test_lines(self):
        plan = Plan(QUESTION, {"places": "tell", "money": "scan"})
        lines = ["question: from sales join shops on city = town where price < 40 tell many at 3",
                 "money: scan", "places: tell", "passing: yes", "size: 8"]
        self.assertEqual(plan.lines(), lines)
        plan.lines().clear()
        self.assertEqual(plan.lines(), lines)
        question = read_question("from sales tell many", SHAPES)
        self.assertEqual(Plan(question, {}, passing=False, size=1).lines(),
                         ["question: from sales tell many", "passing: no", "size: 1"])

    def test_plain_plan(self):
        plan = check_unchanged(self, plain_plan, QUESTION)
        self.assertIs(plan.__class__, Plan)
        self.assertIs(plan.question, QUESTION)
        self.assertEqual((plan.openings, plan.passing, plan.size), ({"money": "scan", "places": "scan"}, False, 1))
        self.assertEqual(plan.lines()[1:], ["money: scan", "places: scan", "passing: no", "size: 1"])
        self.assertEqual(plain_plan(read_question("from sales tell count", SHAPES)).openings, {})


if __name__ == "__main__":
    unittest.main()
