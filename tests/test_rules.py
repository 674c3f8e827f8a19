import random
import unittest

from colonnade.codedly import STAGES, stage_after
from colonnade.engine import work
from colonnade.errors import RuleRefused
from colonnade.filters import Within
from colonnade.needs import Needs
from colonnade.patterns import holds_always, numbers_told, test_weight
from colonnade.plainly import plain_answer
from colonnade.plans import Plan, plain_plan
from colonnade.reading import read_question
from colonnade.relations import RELATIONS
from colonnade.rules import apply_rule, best_plan, best_rules, follow

from tests.asking import SHAPES, question_for, scene_for
from tests.helpers import check_raises, check_unchanged

# What `test_weight` tells is no test of unittest's.
test_weight.__test__ = False
ALL = {book: "same" for book in SHAPES.books}


def asked(text):
    return read_question(text, SHAPES)


def told(plan):
    return (plan.question.text, plan.openings, plan.passing, plan.size)


def plan_for(text, *, passing=True, size=8, **openings):
    question = asked(text)
    return Plan(question, {**{book: "scan" for book in question.books_named()}, **openings}, passing=passing, size=size)


class RuleTest(unittest.TestCase):
    def check(self, plan, rule, text, kept=None, **changes):
        """Check that the rule is allowed, and what it makes of the plan."""
        made = check_unchanged(self, apply_rule, plan, rule, kept or ALL)
        self.assertIs(made.__class__, Plan)
        wanted = {"openings": plan.openings, "passing": plan.passing, "size": plan.size, **changes}
        self.assertEqual(told(made), (text, wanted["openings"], wanted["passing"], wanted["size"]))
        self.assertIsNot(made.openings, plan.openings)
        return made

    def refuse(self, plan, rule, kept=None):
        before = told(plan)
        check_raises(self, RuleRefused, {"rule": rule}, apply_rule, plan, rule, kept or ALL)
        self.assertEqual(told(plan), before)

    def test_swap(self):
        plan = plan_for("from sales where price < 4 and many = 1 and day = 2 tell cost", money="join", size=5)
        self.check(plan, ("swap", 0), "from sales where many = 1 and price < 4 and day = 2 tell cost")
        self.check(plan, ("swap", 1), "from sales where price < 4 and day = 2 and many = 1 tell cost")
        for at in (2, 3, 99, -1, -2, -3, True, False, "0", None, (0,), "x"):
            self.refuse(plan, ("swap", at))
        self.refuse(plan_for("from sales tell price"), ("swap", 0))
        self.refuse(plan_for("from sales where price = 1 tell price"), ("swap", 0))

    def test_swap_parts_that_are_some(self):
        plan = plan_for("from sales where (price < 4 or many = 1) and day = 2 tell cost")
        self.check(plan, ("swap", 0), "from sales where day = 2 and (price < 4 or many = 1) tell cost")

    def test_list(self):
        plan = plan_for("from sales where city = 'a' and many > 3 and many < 7 and not price <> 5 tell cost", size=9)
        self.check(plan, ("list", 3), "from sales where city = 'a' and many > 3 and many < 7 and price in (5) tell cost")
        for at in (0, 1, 2):
            self.refuse(plan, ("list", at))
        for text, listed in (
            ("not (many < 4 or many > 6)", "many in (4, 5, 6)"), ("many < -999999998", "many in (-999999999)"),
            ("many = 4 or many = 2", "many in (2, 4)"), ("not (day < 3 or day >= 11)", "day in (3, 4, 5, 6, 7, 8, 9, 10)"),
            ("not not many in (3, 1)", "many in (1, 3)"), ("many = many and many = 3", None),
        ):
            plan = plan_for(f"from sales where {text} tell cost")
            if listed:
                made = self.check(plan, ("list", 0), f"from sales where {listed} tell cost")
                self.assertIs(made.question.tests[0].__class__, Within)

    def test_list_refused(self):
        for text in (
            "many in (1, 2)",  # a Within already
            "city = 'a'",  # words
            "price = cost",  # two columns
            "many < 4",  # more than eight numbers
            "not (many < 1 or many > 9)",  # nine numbers
            "many = 1 and many = 1 or many <> many",  # see below
            "not (many <> 1 or many <> 2)",  # no number
            "many = 1 or many = 2 or many = 3 or many = 4 or many = 5",  # weight 6
            "many = 1 or many = 999999999 or many = -999999999",  # weight 6
        ):
            plan = plan_for(f"from sales where {text} tell cost")
            if text == "many = 1 and many = 1 or many <> many":
                self.check(plan, ("list", 0), "from sales where many in (1) tell cost")
            else:
                self.refuse(plan, ("list", 0))
        plan = plan_for("from sales where many = 1 tell cost")
        for at in (1, -1, True, False, "0", None):
            self.refuse(plan, ("list", at))

    def test_drop(self):
        plan = plan_for("from sales where (many < 4 or many >= 4) and day = 2 and price = price tell cost",
                        days="tell", money="cross", passing=False, size=1)
        self.check(plan, ("drop", 0), "from sales where day = 2 and price = price tell cost")
        self.check(plan, ("drop", 2), "from sales where (many < 4 or many >= 4) and day = 2 tell cost")
        self.refuse(plan, ("drop", 1))
        for at in (3, 99, -1, -3, True, False, "0", None, ()):
            self.refuse(plan, ("drop", at))
        self.refuse(plan_for("from sales tell cost"), ("drop", 0))

    def test_drop_leaves_openings_of_named_books_alone(self):
        plan = plan_for("from sales where (day < 4 or not day < 4) and price = 1 tell cost", days="order", money="join")
        self.check(plan, ("drop", 0), "from sales where price = 1 tell cost", openings={"money": "join"})
        plan = plan_for("from sales where (day < 4 or not day < 4) tell cost, day", days="order", money="join")
        self.check(plan, ("drop", 0), "from sales tell cost, day", openings={"days": "order", "money": "join"})

    def test_drop_too_heavy(self):
        self.refuse(plan_for("from sales where many = 1 or many = 2 or many = 3 or many = 4 or many = 5 or many <> 5 "
                             "tell cost"), ("drop", 0))
        text = "from sales where many = 1 or many = 2 or many = 3 or many <> 1 tell cost"
        self.check(plan_for(text), ("drop", 0), "from sales tell cost")

    def test_later(self):
        text = "from sales where city = 'a' group day tell least price, day order least price"
        plan = plan_for(text)
        kept = {"places": "same", "days": "same", "money": "order"}
        for book in ("days", "money", "places"):
            openings = dict(plan.openings)
            for stage in STAGES[1:]:
                openings[book] = stage
                plan = self.check(plan, ("later", book), text, kept, openings=openings)
            self.refuse(plan, ("later", book), kept)
        self.assertEqual(plan.openings, {"days": "tell", "money": "tell", "places": "tell"})

    def test_later_refused_where_more_is_needed(self):
        text = "from sales where city < 'b' group day tell least price, day, sum cost order sum cost, day"
        for book, kept, refused in (("places", "same", ["scan"]), ("money", "order", ["group", "order"]),
                                    ("money", "distance", ["order"]), ("days", "same", ["order"]),
                                    ("days", "none", ["group", "order"]), ("places", "order", [])):
            for at in STAGES[:-1]:
                plan = plan_for(text, **{book: at})
                relations = {**ALL, book: kept}
                if at in refused:
                    self.refuse(plan, ("later", book), relations)
                else:
                    self.check(plan, ("later", book), text, relations,
                               openings={**plan.openings, book: stage_after(at)})

    def test_earlier(self):
        text = "from sales where city < 'b' tell city order city"
        plan = plan_for(text, places="tell")
        for stage in ("order", "group", "cross", "join", "scan"):
            plan = self.check(plan, ("earlier", "places"), text, {"places": "none"}, openings={"places": stage})
        self.refuse(plan, ("earlier", "places"))

    def test_books_that_are_not_named(self):
        plan = plan_for("from sales tell city", places="join")
        for rule in ("later", "earlier"):
            for book in ("money", "city", "", "nothing", 0, None, ("places",), True):
                self.refuse(plan, (rule, book))

    def test_passing_and_size(self):
        text = "from sales tell city"
        plan = plan_for(text, passing=False, size=3)
        self.check(plan, ("passing", True), text, passing=True)
        self.check(plan, ("passing", False), text)
        for flag in (1, 0, "yes", None, "True"):
            self.refuse(plan, ("passing", flag))
        for size in (1, 2, 8, 999):
            self.check(plan, ("size", size), text, size=size)
        for size in (0, 1000, -1, True, False, "8", None):
            self.refuse(plan, ("size", size))

    def test_tuples_that_are_no_rules(self):
        plan = plan_for("from sales where many = 1 and many < 9 tell city")
        for rule in ((), ("swap",), ("swap", 0, 0), ("swap", 0, 1), ("Swap", 0), ("", 0), (0, "swap"), ("drop",),
                     ("list",), ("later",), ("later", "places", "places"), ("earlier",), ("passing",), ("size",),
                     ("passing", True, True), ("size", 8, 8), ("tell", 1), (None, 0), (True, 0), ("later", ["places"]),
                     (("swap", 0), 0), ["swap", 0], ["size", 8], "size", 5, ("open", "places"), ("swap", (0,)), (("swap",), 0)):
            self.refuse(plan, rule)

    def test_extra_openings_are_not_kept(self):
        question = asked("from sales tell city")
        plan = Plan(question, {"places": "join", "money": "tell"})
        for rule in (("later", "places"), ("earlier", "places"), ("size", 5), ("passing", False)):
            self.assertEqual(list(apply_rule(plan, rule, ALL).openings), ["places"])


class FollowTest(unittest.TestCase):
    def test_no_rules(self):
        question = asked("from sales where many = 1 tell city, day")
        self.assertEqual(told(follow(question, [], ALL)), told(plain_plan(question)))

    def test_rules_one_after_the_other(self):
        question = asked("from sales where not many <> 3 and (many < 4 or many >= 4) and day < 5 tell city, day")
        rules = [("swap", 0), ("drop", 0), ("list", 0), ("swap", 0), ("later", "places"), ("later", "places"),
                 ("earlier", "places"), ("passing", True), ("size", 3)]
        plan = check_unchanged(self, follow, question, rules, {"places": "same", "days": "none"})
        self.assertEqual(told(plan), ("from sales where day < 5 and many in (3) tell city, day",
                                      {"days": "scan", "places": "join"}, True, 3))

    def test_the_first_rule_that_is_refused(self):
        question = asked("from sales where many = 1 and day = 2 tell city")
        rules = [("swap", 0), ("size", 0), ("nothing",)]
        check_raises(self, RuleRefused, {"rule": ("size", 0)}, follow, question, rules, ALL)
        check_raises(self, RuleRefused, {"rule": ("nothing",)}, follow, question, rules[::2], ALL)
        # A rule counts for the plan that the rules in front of it have made.
        check_raises(self, RuleRefused, {"rule": ("later", "days")}, follow, question,
                     [("later", "days")] * 6, ALL)

    def test_chains_of_rules_keep_the_plain_answer(self):
        dice = random.Random(41)
        applied = 0
        for _ in range(120):
            question, scene = question_for(dice), scene_for(dice)
            kept = scene.relations()
            plan, rules = plain_plan(question), []
            for _ in range(12):
                rule = dice.choice([("swap", dice.randint(0, 2)), ("list", dice.randint(0, 2)), ("drop", dice.randint(0, 2)),
                                    ("later", dice.choice(SHAPES.books)), ("later", dice.choice(SHAPES.books)),
                                    ("earlier", dice.choice(SHAPES.books)), ("passing", dice.randint(0, 1) == 1),
                                    ("size", dice.randint(1, 5))])
                try:
                    plan = apply_rule(plan, rule, kept)
                    rules.append(rule)
                except RuleRefused:
                    continue
            applied += len(rules)
            self.assertEqual(told(follow(question, rules, kept)), told(plan))
            self.assertEqual(work(plan, scene).rows, plain_answer(question, scene.all_rows()))
        self.assertGreater(applied, 300)


class BestTest(unittest.TestCase):
    def best(self, text, **kept):
        question = asked(text)
        rules = check_unchanged(self, best_rules, question, {**ALL, **kept})
        plan = check_unchanged(self, best_plan, question, {**ALL, **kept})
        self.assertEqual(told(plan), told(follow(question, rules, {**ALL, **kept})))
        self.assertIs(rules.__class__, list)
        self.assertEqual(rules[-2:], [("passing", True), ("size", 8)])
        return rules[:-2], plan

    def test_no_tests_and_no_books(self):
        rules, plan = self.best("from sales tell many")
        self.assertEqual((rules, told(plan)), ([], ("from sales tell many", {}, True, 8)))

    def test_order_of_the_rules(self):
        rules, plan = self.best(
            "from sales where many = many and not many <> 3 and city < 'b' and price = price and day = 3 and many < 7 "
            "and not (many < 1 or many > 3) and (cost < 3 or cost >= 3) tell city, day order day", days="same")
        self.assertEqual(rules, [
            ("drop", 7), ("drop", 3), ("drop", 0), ("list", 0), ("list", 2), ("list", 4), *[("later", "days")] * 4])
        self.assertEqual(told(plan), (
            "from sales where many in (3) and city < 'b' and day in (3) and many < 7 and many in (1, 2, 3) "
            "tell city, day order day", {"days": "order", "places": "scan"}, True, 8))

    def test_books_in_ascending_order(self):
        rules, plan = self.best("from sales join shops on city = town where price < 5 tell owner, day order owner",
                                money="order")
        self.assertEqual(rules, [*[("later", "days")] * 5, *[("later", "money")] * 5, *[("later", "people")] * 4,
                                 *[("later", "places")] * 5])
        self.assertEqual(plan.openings, {"days": "tell", "money": "tell", "people": "order", "places": "tell"})

    def test_books_that_are_dropped_are_not_opened(self):
        rules, plan = self.best("from sales where day = 1 or day <> 1 tell many")
        self.assertEqual((rules, plan.openings), ([("drop", 0)], {}))

    def test_lists_help_books(self):
        # As a list the test needs only "same".
        rules, plan = self.best("from sales where not (day < 3 or day > 5) tell many")
        self.assertEqual((rules, plan.openings), ([("list", 0), *[("later", "days")] * 5], {"days": "tell"}))

    def test_tests_that_are_too_heavy_stay(self):
        text = "from sales where many = 1 or many = 2 or many = 3 or many = 4 or many = 5 tell many"
        self.assertEqual(self.best(text)[0], [])

    def test_random_questions(self):
        dice = random.Random(42)
        for _ in range(150):
            question = question_for(dice)
            kept = {book: dice.choice(RELATIONS) for book in SHAPES.books}
            plan, rules = plain_plan(question), []
            for at in reversed(range(len(question.tests))):
                if test_weight(question.tests[at], SHAPES) <= 5 and holds_always(question.tests[at], SHAPES):
                    rules.append(("drop", at))
                    plan = apply_rule(plan, rules[-1], kept)
            for at, test in enumerate(plan.question.tests):
                if not isinstance(test, Within) and test_weight(test, SHAPES) <= 5 and numbers_told(test, SHAPES):
                    rules.append(("list", at))
                    plan = apply_rule(plan, rules[-1], kept)
            latest = Needs(plan.question).latest_openings(kept)
            for book in plan.question.books_named():
                rules.extend([("later", book)] * STAGES.index(latest[book]))
            rules.extend([("passing", True), ("size", 8)])
            self.assertEqual(best_rules(question, kept), rules)
            best = best_plan(question, kept)
            self.assertEqual(told(best), (plan.question.text, latest, True, 8))

    def test_best_plans_give_the_plain_answer(self):
        dice = random.Random(43)
        for _ in range(120):
            question, scene = question_for(dice), scene_for(dice)
            plan = best_plan(question, scene.relations())
            self.assertEqual(work(plan, scene).rows, plain_answer(question, scene.all_rows()))

    def test_results_are_new(self):
        question = asked("from sales where many = many tell city")
        for found in (best_rules(question, ALL), best_plan(question, ALL).openings):
            found.clear()
        self.assertEqual(len(best_rules(question, ALL)), 8)
        self.assertEqual(best_plan(question, ALL).openings, {"places": "tell"})


if __name__ == "__main__":
    unittest.main()
