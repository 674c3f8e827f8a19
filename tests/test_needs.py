import random
import unittest

from colonnade.codedly import STAGES, stage_after
from colonnade.errors import NoBook
from colonnade.needs import Needs, joint_needs
from colonnade.plainly import plain_answer
from colonnade.reading import read_question
from colonnade.relations import RELATIONS, is_enough, strongest

from tests.asking import SHAPES, question_for, rows_for
from tests.helpers import check_raises, check_unchanged


def ask(text):
    return read_question(text, SHAPES)


def needs_of(text, book):
    needs = Needs(ask(text))
    return {stage: needs.need_at(book, stage) for stage in STAGES if needs.need_at(book, stage) != "none"}


class NeedAtTest(unittest.TestCase):
    def check(self, text, book, **wanted):
        self.assertEqual(needs_of(text, book), wanted, text)

    def test_tests(self):
        self.check("from sales where city < 'rome' tell many", "places", scan="order")
        self.check("from sales where city = 'rome' and many < 5 tell many", "places", scan="same")
        self.check("from sales where city = 'rome' and city > 'b' tell many", "places", scan="order")
        self.check("from sales where price < 5 or many = 1 tell city", "money", scan="order")
        self.check("from sales where price < 5 or many = 1 tell city", "places")
        self.check("from sales join shops on many = floor where price < rent tell city", "money", cross="order")
        self.check("from sales join shops on many = floor where price = rent and cost < 5 tell city", "money",
                   scan="order", cross="same")
        self.check("from sales join shops on many = floor where price < rent or price >= rent tell city", "money",
                   cross="same")
        self.check("from sales where price in (1, 2, 3) and cost in (1, 2, 3, 4, 5) tell city", "money", scan="same")

    def test_joins(self):
        self.check("from sales join shops on city = town tell many", "places", join="same")
        self.check("from sales join staff on city = name tell many", "places", join="same")
        self.check("from sales join staff on city = name tell many", "people", join="same")
        self.check("from sales join shops on many = rent tell city", "money", join="same")

    def test_groups(self):
        self.check("from sales group city tell count", "places", group="same")
        self.check("from sales group city tell city, count", "places", group="same")
        self.check("from sales tell distinct city", "places", group="same")
        self.check("from sales tell least city", "places", group="order")
        self.check("from sales tell greatest price, distinct price", "money", group="order")
        self.check("from sales tell sum price, least price", "money", group="distance")
        self.check("from sales tell count, sum many, least city", "places", group="order")
        self.check("from sales tell city", "places")

    def test_orders(self):
        self.check("from sales tell city order city down", "places", order="order")
        self.check("from sales tell many order city", "places", order="order")
        self.check("from sales group city tell count order city", "places", group="same", order="order")
        self.check("from sales group many tell count order least city", "places", group="order", order="order")
        self.check("from sales group many tell count order greatest price", "money", group="order", order="order")
        self.check("from sales group many tell count order sum price", "money", group="distance", order="value")
        self.check("from sales group many tell count order distinct price, count", "money", group="same")
        self.check("from sales group many tell count, least price order distinct price", "money", group="order")

    def test_overall(self):
        for text, book, wanted in (
            ("from sales tell city", "places", "none"), ("from sales where city = 'x' tell city", "places", "same"),
            ("from sales where city = 'x' tell city order city", "places", "order"),
            ("from sales where price < 5 tell sum price", "money", "distance"),
            ("from sales group many tell many order sum price", "money", "value"),
        ):
            self.assertEqual(Needs(ask(text)).overall(book), wanted)

    def test_no_book(self):
        needs = Needs(ask("from sales where city = 'rome' tell many"))
        for name in ("money", "days", "nothing", "", "city", "sales"):
            check_raises(self, NoBook, {"name": name}, needs.need_at, name, "scan")
            check_raises(self, NoBook, {"name": name}, needs.overall, name)

    def test_question(self):
        question = ask("from sales where city = 'rome' tell many")
        self.assertIs(check_unchanged(self, Needs, question).question, question)


class OpeningsTest(unittest.TestCase):
    def test_latest_openings(self):
        text = ("from sales join shops on city = town where price = 5 and city < 'x' group day "
                "tell day, sum price, greatest owner order day")
        needs = Needs(ask(text))
        for kept, wanted in (
            ("none", {"days": "group", "money": "scan", "people": "group", "places": "scan"}),
            ("same", {"days": "order", "money": "group", "people": "group", "places": "scan"}),
            ("order", {"days": "tell", "money": "group", "people": "tell", "places": "tell"}),
            ("distance", {"days": "tell", "money": "tell", "people": "tell", "places": "tell"}),
            ("value", {"days": "tell", "money": "tell", "people": "tell", "places": "tell"}),
        ):
            told = {name: kept for name in ("people", "places", "money", "days", "more")}
            found = check_unchanged(self, needs.latest_openings, told)
            self.assertEqual(found, wanted)
            self.assertEqual(list(found), sorted(found))
            found.clear()
            self.assertEqual(needs.latest_openings(told), wanted)
        mixed = {"days": "order", "money": "none", "people": "same", "places": "same"}
        self.assertEqual(needs.latest_openings(mixed),
                         {"days": "tell", "money": "scan", "people": "group", "places": "scan"})
        self.assertEqual(Needs(ask("from sales tell many")).latest_openings({}), {})

    def test_in_time(self):
        needs = Needs(ask("from sales join shops on city = town group many tell many, least price order sum price"))
        for book, kept, last in (("places", "none", "join"), ("places", "same", "tell"), ("money", "none", "group"),
                                 ("money", "same", "group"), ("money", "order", "group"), ("money", "distance", "order"),
                                 ("money", "value", "tell")):
            for stage in STAGES:
                openings = {"places": "scan", "money": "scan", book: stage}
                told = {"places": "none", "money": "none", book: kept}
                in_time = STAGES.index(stage) <= STAGES.index(last)
                self.assertIs(check_unchanged(self, needs.in_time, openings, told), in_time, (book, kept, stage))

    def test_latest_is_the_latest(self):
        dice = random.Random(12)
        for _ in range(150):
            question = question_for(dice)
            needs = Needs(question)
            kept = {name: dice.choice(RELATIONS) for name in question.books_named()}
            latest = needs.latest_openings(kept)
            self.assertIs(needs.in_time(latest, kept), True)
            for name in latest:
                later = {**latest, name: stage_after(latest[name])}
                self.assertIs(needs.in_time(later, kept), latest[name] == "tell")
                earlier = {**latest, name: dice.choice(STAGES[:STAGES.index(latest[name]) + 1])}
                self.assertIs(needs.in_time(earlier, kept), True)
                self.assertEqual(needs.overall(name), strongest(*[needs.need_at(name, stage) for stage in STAGES]))
            every = all([is_enough(kept[name], needs.overall(name)) for name in latest])
            self.assertIs(needs.all_enough(kept), every)

    def test_all_enough(self):
        needs = Needs(ask("from sales join shops on city = town tell sum price"))
        for places, money, wanted in (("same", "distance", True), ("value", "value", True), ("none", "value", False),
                                      ("same", "order", False), ("order", "distance", True)):
            told = {"money": money, "places": places, "other": "none"}
            self.assertIs(check_unchanged(self, needs.all_enough, told), wanted)
        self.assertIs(Needs(ask("from sales tell many")).all_enough({}), True)


class LinesTest(unittest.TestCase):
    def test_lines(self):
        self.assertEqual(Needs(ask("from sales where city < 'pisa' group city tell city, sum many")).lines(),
                         ["places    order     none      none      same      none      none"])
        needs = Needs(ask("from sales join shops on city = town group many tell least day order sum price"))
        self.assertEqual(needs.lines(), [
            "days      none      none      none      order     none      none",
            "money     none      none      none      distance  value     none",
            "places    none      same      none      none      none      none",
        ])
        needs.lines().clear()
        self.assertEqual(len(needs.lines()), 3)
        self.assertEqual(Needs(ask("from sales tell count")).lines(), [])


class PlacesTest(unittest.TestCase):
    none = (
        "from sales tell city order city", "from sales tell city, price order price, many, city down",
        "from sales tell count", "from sales tell sum price, least city", "from sales tell count order count",
        "from sales group city tell city, count order city", "from sales group city, day tell count order day, city",
        "from sales group city tell count, sum price order sum price, count",
        "from sales group city tell count order count", "from sales group city tell count order least price, city",
        "from sales group city, day tell day order day", "from sales group city, day tell city order city, count",
    )
    order = (
        "from sales tell city", "from sales tell city, price order city", "from sales tell city order price",
        "from sales group city tell city", "from sales group city, day tell count, city order count",
        "from sales group city, day tell count order city", "from sales group city tell count order sum price",
        "from sales group city tell count, sum price order count",
    )

    def test_cases(self):
        for text in self.none:
            self.assertEqual(Needs(ask(text)).places_need, "none", text)
        for text in self.order:
            self.assertEqual(Needs(ask(text)).places_need, "order", text)

    def test_any_order_of_rows(self):
        dice = random.Random(13)
        for text in self.none:
            for most in ("", " first 1"):
                question = ask(text + most)
                for _ in range(20):
                    rows = rows_for(dice, SHAPES, 8)
                    mixed = {**rows, "sales": dice.sample(rows["sales"], len(rows["sales"]))}
                    self.assertEqual(plain_answer(question, mixed), plain_answer(question, rows), text)

    def test_another_order_gives_another_answer(self):
        dice = random.Random(14)
        for text in self.order:
            question = ask(text)
            found = 0
            for _ in range(200):
                rows = [(dice.choice("ab"), *[dice.randint(0, 2) for _ in range(4)]) for _ in range(8)]
                mixed = dice.sample(rows, 8)
                found += plain_answer(question, {"sales": mixed}) != plain_answer(question, {"sales": rows})
            self.assertGreater(found, 0, text)


class JointTest(unittest.TestCase):
    def test_joint_needs(self):
        self.assertEqual(joint_needs([]), {})
        one = ask("from sales where city = 'x' tell sum price")
        self.assertEqual(joint_needs([one]), {"money": "distance", "places": "same"})
        other = ask("from sales where price < 5 tell city, day order city")
        questions = [one, other, ask("from sales tell many")]
        found = check_unchanged(self, joint_needs, questions)
        self.assertEqual(found, {"days": "none", "money": "distance", "places": "order"})
        self.assertEqual(list(found), ["days", "money", "places"])
        self.assertEqual(joint_needs(questions[::-1]), found)


if __name__ == "__main__":
    unittest.main()
