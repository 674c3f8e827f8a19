import random
import unittest

from colonnade.carries import Carry
from colonnade.errors import NoBook, NoCarry, NoCode, NoTable
from colonnade.reading import read_question
from colonnade.relations import is_enough, weakest

from tests.asking import SHAPES
from tests.helpers import check_raises, check_unchanged

PLACES = {"sales": [2, None, 0, 1], "shops": [0, 1], "staff": []}
CODES = {"places": {3: 30, 5: 50, 9: 40}, "days": {1: 1, 2: 2}, "money": {4: 14, 5: 15}, "people": {}}


class CarryTest(unittest.TestCase):
    carry = Carry(PLACES, CODES, [2, 5])

    def test_attributes(self):
        places = {table: list(own) for table, own in PLACES.items()}
        codes = {book: dict(own) for book, own in CODES.items()}
        moments = [2, 5]
        carry = check_unchanged(self, Carry, places, codes, moments)
        places["sales"].append(9)
        codes["places"][7] = 8
        moments.append(6)
        for told in (places, codes):
            told.clear()
        self.assertEqual(carry.places, {"sales": (2, None, 0, 1), "shops": (0, 1), "staff": ()})
        self.assertEqual((carry.codes, carry.moments), (CODES, (2, 5)))
        self.assertEqual((list(carry.places), list(carry.codes)), (list(PLACES), list(CODES)))
        again = Carry({"t": (1, None)}, {}, (3,))
        self.assertEqual((again.places, again.codes, again.moments), ({"t": (1, None)}, {}, (3,)))

    def test_new_places_and_codes(self):
        self.assertEqual([self.carry.new_place("sales", old) for old in range(4)], [2, None, 0, 1])
        self.assertEqual([self.carry.new_code("places", old) for old in (3, 5, 9)], [30, 50, 40])

    def test_codes_that_are_not_there(self):
        for old in (0, 4, 30, -1, True, "3", None):
            check_raises(self, NoCode, {"code": old}, self.carry.new_code, "places", old)
        check_raises(self, NoCode, {"code": True}, self.carry.new_code, "days", True)
        check_raises(self, NoCode, {"code": 0}, self.carry.new_code, "people", 0)

    def test_tables_and_books_that_are_not_there(self):
        for name in ("places", "", "salesx"):
            check_raises(self, NoTable, {"name": name}, self.carry.new_place, name, 99)
            check_raises(self, NoTable, {"name": name}, self.carry.keeps_places, name)
        for name in ("sales", "", "place"):
            check_raises(self, NoBook, {"name": name}, self.carry.new_code, name, 99)
            check_raises(self, NoBook, {"name": name}, self.carry.keeps_codes, name)

    def test_what_it_keeps(self):
        for places, kept in (([0, 1, 2], "value"), ([], "value"), ([None, None], "value"), ([None, 1], "value"),
                             ([None, 0, 1], "distance"), ([0, None, 1], "order"), ([1, 0], "same"), ([5, 6], "distance"),
                             ([0, 1, None], "value"), ([None, None, 7], "distance"), ([2, None, 0], "same")):
            self.assertEqual(Carry({"t": places}, {}, [0]).keeps_places("t"), kept)
        for codes, kept in (({}, "value"), ({3: 3, 7: 7}, "value"), ({3: 4, 7: 8}, "distance"), ({3: 4, 7: 9}, "order"),
                            ({3: 9, 7: 4}, "same"), ({3: 9, 7: 9}, "none"), ({3: 3, 7: 3, 9: 1}, "none"),
                            ({7: 8, 3: 4}, "distance")):
            self.assertEqual(Carry({}, {"b": codes}, [0]).keeps_codes("b"), kept)
        self.assertEqual([self.carry.keeps_places(table) for table in PLACES], ["same", "value", "value"])
        self.assertEqual([self.carry.keeps_codes(book) for book in CODES], ["same", "value", "distance", "value"])


class SumTest(unittest.TestCase):
    def test_sum(self):
        first = Carry({"t": [1, None, 0, 2]}, {"b": {1: 5, 2: 6, 3: 6}}, [0, 1, 4])
        second = Carry({"t": [3, 1, None]}, {"b": {5: 50, 6: 7, 8: 9}}, [1, 4])
        both = check_unchanged(self, first.__add__, second)
        self.assertIs(both.__class__, Carry)
        self.assertEqual((both.places, both.codes, both.moments),
                         ({"t": (1, None, 3, None)}, {"b": {1: 50, 2: 7, 3: 7}}, (1, 4)))
        self.assertEqual((first + second).places, both.places)

    def test_each_map_for_itself(self):
        first = Carry({"t": [1, 0], "u": [0]}, {"b": {1: 2}, "c": {5: 6}}, [0])
        second = Carry({"u": [4], "t": [1, 0], "v": [9]}, {"c": {6: 1}, "b": {2: 9}, "d": {}}, [0, 3])
        both = first + second
        self.assertEqual((both.places, both.codes, both.moments),
                         ({"t": (0, 1), "u": (4,)}, {"b": {1: 9}, "c": {5: 1}}, (0, 3)))

    def test_sums_keep_at_least_the_weaker_of_their_parts(self):
        dice = random.Random(4)
        stronger = 0
        for _ in range(300):
            many = dice.randint(0, 4)
            first = Carry({"t": dice.sample([*range(many), None], many) if dice.randint(0, 1) else list(range(many))},
                          {"b": {at: dice.randint(0, 4) for at in range(3)}}, [0])
            second = Carry({"t": dice.sample(range(many + 2), many)},
                           {"b": {at: dice.choice((at, at + 1, 5 - at, dice.randint(0, 4))) for at in range(5)}}, [0])
            third = Carry({"t": list(range(many + 2))}, {"b": {at: at for at in range(9)}}, [0, 1])
            both = first + second
            for kept, one, other in ((both.keeps_places("t"), first.keeps_places("t"), second.keeps_places("t")),
                                     (both.keeps_codes("b"), first.keeps_codes("b"), second.keeps_codes("b"))):
                self.assertTrue(is_enough(kept, weakest(one, other)))
                stronger += kept != weakest(one, other)
            in_turn, at_once = (first + second) + third, first + (second + third)
            self.assertEqual((in_turn.places, in_turn.codes, in_turn.moments),
                             (at_once.places, at_once.codes, at_once.moments))
        self.assertGreater(stronger, 0)


class RowsTest(unittest.TestCase):
    carry = Carry({}, CODES, [0])

    def carried(self, text, rows, **openings):
        question = read_question(text, SHAPES)
        told = {**{book: "scan" for book in question.books_named()}, **openings}
        return check_unchanged(self, self.carry.carried_rows, question, told, rows)

    def test_items_of_books_that_are_opened_last(self):
        text = "from sales tell city, many, day, price"
        rows = [(3, 3, 1, 4), (9, 9, 2, 5), (3, 5, 1, 4)]
        self.assertEqual(self.carried(text, rows, places="tell", money="tell"),
                         [(30, 3, 1, 14), (40, 9, 2, 15), (30, 5, 1, 14)])
        self.assertEqual(self.carried(text, [("a", 3, 1, 4)], places="order", money="tell"), [("a", 3, 1, 14)])
        self.assertEqual(self.carried(text, rows, days="tell"), rows)
        self.assertEqual(self.carried(text, [], places="tell"), [])

    def test_all_kinds_of_items(self):
        text = "from sales group city tell city, least price, greatest cost, distinct price, count, sum many"
        self.assertEqual(self.carried(text, [(5, 4, 5, 4, 5, 9)], places="tell", money="tell"), [(50, 14, 15, 4, 5, 9)])
        self.assertEqual(self.carried(text, [("x", 4, 5, 4, 5, 9)], places="order", money="cross"),
                         [("x", 4, 5, 4, 5, 9)])
        # What a code of a column without a look means is not looked at.
        text = "from sales tell distinct city, count"
        self.assertEqual(self.carried(text, [(77, 88)], places="tell"), [(77, 88)])

    def test_sums_cannot_be_carried(self):
        question = read_question("from sales group day tell sum price, sum cost, day, sum many", SHAPES)
        openings = {"money": "tell", "days": "tell"}
        check_raises(self, NoCarry, {"book": "money"}, self.carry.carried_rows, question, openings, [])
        check_raises(self, NoCarry, {"book": "money"}, self.carry.carried_rows, question, openings, [(1, 1, 99, 1)])
        for stage in ("scan", "join", "cross", "group", "order"):
            self.assertEqual(self.carried(question.text, [(99, 98, 2, 97)], money=stage, days="tell"), [(99, 98, 2, 97)])
        question = read_question("from sales tell sum day, sum price", SHAPES)
        check_raises(self, NoCarry, {"book": "days"}, self.carry.carried_rows, question, openings, [(1, 1)])
        check_raises(self, NoCarry, {"book": "money"}, self.carry.carried_rows, question,
                     {"days": "order", "money": "tell"}, [(1, 1)])

    def test_codes_that_are_not_there(self):
        question = read_question("from sales tell city, price, many", SHAPES)
        openings = {"places": "tell", "money": "tell"}
        for rows, code in (([(3, 4, 7), (4, 6, 1)], 4), ([(3, 6, 1), (8, 4, 1)], 6), ([(True, 4, 1)], True),
                           ([("a", 4, 1)], "a")):
            check_raises(self, NoCode, {"code": code}, self.carry.carried_rows, question, openings, rows)
        self.assertEqual(self.carried(question.text, [(3, 4, 99)], **openings), [(30, 14, 99)])

    def test_results_are_new(self):
        rows = [(3,)]
        self.carried("from sales tell city", rows, places="join").append(5)
        self.assertEqual(rows, [(3,)])


if __name__ == "__main__":
    unittest.main()
