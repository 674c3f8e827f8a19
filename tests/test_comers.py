import itertools
import random
import unittest

from colonnade.comers import Foe, breaking, comers_placed, place_comer, spans, withstands
from colonnade.errors import BadCode, NoPlace

from tests.helpers import check_raises, check_unchanged


def rows(room):
    for many in range(room + 1):
        yield from itertools.combinations(range(room), many)


def placed_at_most(row, room, left):
    """The comers that the best way of giving codes places, of any `left` comers with the worst ranks."""
    if left == 0:
        return 0
    least = left
    for rank in range(len(row) + 1):
        low = row[rank - 1] if rank else -1
        high = row[rank] if rank < len(row) else room
        best = 0
        for code in range(low + 1, high):
            best = max(best, 1 + placed_at_most(row[:rank] + (code,) + row[rank:], room, left - 1))
        least = min(least, best)
    return least


class SpansTest(unittest.TestCase):
    def test_examples(self):
        self.assertEqual((spans([3], 8), withstands([3], 8), breaking([3], 8)), ([4, 5], 2, [0, 0, 0]))
        self.assertEqual(check_unchanged(self, spans, [], 1), [2])
        self.assertEqual(spans((0, 1, 5), 6), [1, 1, 4, 1])
        self.assertEqual(spans([0], 1000000), [1, 1000000])

    def test_withstands(self):
        cases = (([], 1, 1), ([], 2, 1), ([], 3, 2), ([], 7, 3), ([], 1000000, 19), ([0], 1, 0), ([1], 4, 1),
                 ([15, 31], 48, 4), ([15, 30], 48, 3), ([0, 500], 1000, 0))
        for row, room, many in cases:
            self.assertEqual(check_unchanged(self, withstands, row, room), many)
            self.assertEqual(withstands(tuple(row), room), many)

    def test_place_comer(self):
        for row, room, rank, code in (([], 1, 0, 0), ([3], 8, 0, 1), ([3], 8, 1, 5), ([3, 5], 8, 1, 4), ([], 8, 0, 3)):
            self.assertEqual(check_unchanged(self, place_comer, row, room, rank), code)
        for row, room, rank in (([0], 2, 0), ([1], 2, 1), ([3, 4], 8, 1)):
            check_raises(self, NoPlace, {"rank": rank}, place_comer, row, room, rank)

    def test_comers_placed(self):
        self.assertEqual(check_unchanged(self, comers_placed, [3], 8, [0, 0, 0, 0]), 2)
        self.assertEqual(comers_placed((3,), 8, (0, 1)), 2)
        self.assertEqual(comers_placed([3], 8, []), 0)
        self.assertEqual(comers_placed([0], 1, [0, 1]), 0)
        self.assertEqual(comers_placed([], 8, [0, 1, 2, 3, 4]), 4)

    def test_the_middle_rule_places_what_a_row_withstands(self):
        for room in range(1, 8):
            for row in rows(room):
                many = withstands(row, room)
                choices = [range(len(row) + 1 + k) for k in range(many)]
                for ranks in itertools.product(*choices):
                    self.assertEqual(comers_placed(row, room, ranks), many)
                ranks = breaking(row, room)
                self.assertEqual(len(ranks), many + 1)
                self.assertLess(comers_placed(row, room, ranks), many + 1)

    def test_no_rule_is_better(self):
        for room in range(1, 6):
            for row in rows(room):
                self.assertEqual(placed_at_most(row, room, 4), min(4, withstands(row, room)), (row, room))

    def test_breaking_names_the_first_weakest_span(self):
        self.assertEqual(breaking([9, 11, 13], 30), [1, 1])
        self.assertEqual(breaking((9, 10), 30), [1])
        self.assertEqual(breaking([], 6), [0, 0, 0])


class FoeTest(unittest.TestCase):
    def play(self, row, room, give):
        foe = Foe(row, room)
        told = 0
        while foe.rank is not None:
            self.assertEqual(foe.comers, told)
            low = foe.row[foe.rank - 1] if foe.rank else -1
            high = foe.row[foe.rank] if foe.rank < len(foe.row) else room
            code = give(low, high)
            before, rank = foe.row, foe.rank
            self.assertIsNone(foe.told(code))
            told += 1
            self.assertEqual(foe.row, tuple(sorted([*before, code])))
            self.assertIs(foe.row.__class__, tuple)
            left, right = code - low, high - code
            narrow = rank if left <= right else rank + 1
            self.assertEqual(foe.rank, narrow if min(left, right) > 1 else None)
        self.assertEqual(foe.comers, told)
        return told

    def test_middle_and_other_rules(self):
        draw = random.Random(6)
        for room in (1, 2, 5, 9, 64, 1000, 1000000):
            for _ in range(20):
                row = sorted(draw.sample(range(room), draw.randint(0, min(room, 5))))
                many = withstands(row, room)
                self.assertEqual(self.play(row, room, lambda low, high: low + (high - low) // 2), many)
                for give in (lambda low, high: low + 1, lambda low, high: high - 1,
                             lambda low, high: draw.randint(low + 1, high - 1)):
                    self.assertLessEqual(self.play(row, room, give), many)

    def test_start(self):
        row = [9, 12, 15]
        foe = Foe(row, 16)
        self.assertEqual((foe.row, foe.rank, foe.comers), ((9, 12, 15), None, 0))
        row.append(15)
        self.assertEqual(foe.row, (9, 12, 15))
        self.assertEqual(Foe((9, 12, 16), 30).rank, 1)
        self.assertEqual(Foe([], 1).rank, 0)

    def test_refused_codes_leave_the_foe(self):
        foe = Foe((3, 8), 20)
        self.assertEqual(foe.rank, 0)
        for code in (-1, 3, 4, 100, -5, True):
            check_raises(self, BadCode, {"code": code}, foe.told, code)
            self.assertEqual((foe.row, foe.rank, foe.comers), ((3, 8), 0, 0))
        foe.told(2)
        self.assertEqual((foe.row, foe.rank, foe.comers), ((2, 3, 8), None, 1))
        for code in (2, 5, 0, 99):
            check_raises(self, NoPlace, {"rank": 1}, foe.told, code)
            self.assertEqual((foe.row, foe.rank, foe.comers), ((2, 3, 8), None, 1))

    def test_without_room(self):
        foe = Foe([0, 1, 2], 3)
        self.assertIsNone(foe.rank)
        check_raises(self, NoPlace, {"rank": 0}, foe.told, 1)
        foe = Foe([1, 2], 10)
        self.assertIsNone(foe.rank)
        check_raises(self, NoPlace, {"rank": 1}, foe.told, 5)

    def test_to_the_left_if_equal(self):
        foe = Foe([], 7)
        foe.told(3)
        self.assertEqual((foe.row, foe.rank), ((3,), 0))
        foe = Foe([], 8)
        foe.told(5)
        self.assertEqual((foe.row, foe.rank), ((5,), 1))


if __name__ == "__main__":
    unittest.main()
