import inspect
import itertools
import random
import unittest

from colonnade.stretches import Stretches

from tests.helpers import check_unchanged

END = 10 ** 9


def places_of(pairs):
    return {place for start, end in pairs for place in range(start, end)}


def random_pairs(draw, most):
    pairs = []
    for _ in range(draw.randint(0, 6)):
        start = draw.randrange(most - 1)
        pairs.append((start, draw.randint(start + 1, most)))
    return pairs


class MakingTest(unittest.TestCase):
    def test_pairs(self):
        cases = (
            ([], ()), ((), ()), ([(3, 5)], ((3, 5),)), ([(3, 5), (5, 7)], ((3, 7),)), ([(5, 7), (3, 5)], ((3, 7),)),
            ([(3, 5), (3, 5)], ((3, 5),)), ([(0, 9), (2, 3)], ((0, 9),)), ([(8, 9), (0, 1)], ((0, 1), (8, 9))),
            (((0, 4), (3, 6), (7, 8)), ((0, 6), (7, 8))), ([(0, END), (5, 6)], ((0, END),)),
            ([(2, 3), (0, 9), (8, 12)], ((0, 12),)), ([(END - 1, END), (0, 1)], ((0, 1), (END - 1, END))),
        )
        for pairs, kept in cases:
            made = check_unchanged(self, Stretches, pairs)
            self.assertEqual(made.pairs, kept)
            self.assertIs(made.pairs.__class__, tuple)
            self.assertEqual([pair for pair in made], list(kept))
        self.assertEqual(Stretches().pairs, ())

    def test_later_changes(self):
        pairs = [(1, 2)]
        made = Stretches(pairs)
        pairs.append((5, 6))
        self.assertEqual(made.pairs, ((1, 2),))

    def test_covering(self):
        cases = (([], ()), ([5], ((5, 6),)), ([3, 1, 2, 3, 9], ((1, 4), (9, 10))), ([0, END - 1], ((0, 1), (END - 1, END))))
        for places, kept in cases:
            self.assertEqual(check_unchanged(self, Stretches.covering, places).pairs, kept)

    def test_in(self):
        made = Stretches([(0, 1), (4, 7), (9, 10), (END - 1, END)])
        for place, held in ((0, True), (1, False), (3, False), (4, True), (6, True), (7, False), (9, True), (10, False),
                            (END - 2, False), (END - 1, True), (END, False), (-1, False)):
            self.assertIs(place in made, held)
        self.assertIs(0 in Stretches(), False)


class OperatorsTest(unittest.TestCase):
    def test_against_sets(self):
        draw = random.Random(21)
        for _ in range(400):
            first, second = random_pairs(draw, 14), random_pairs(draw, 14)
            a, b = Stretches(first), Stretches(second)
            one, other = places_of(first), places_of(second)
            before = (a.pairs, b.pairs)
            cases = ((a | b, one | other), (a & b, one & other), (a - b, one - other), (a ^ b, one ^ other))
            for made, places in cases:
                self.assertIs(made.__class__, Stretches)
                self.assertEqual(made.pairs, Stretches.covering(sorted(places)).pairs, (first, second))
                self.assertEqual(list(made.each_place()), sorted(places))
                self.assertEqual(made.total(), len(places))
            self.assertIs(a.within(b), one <= other)
            self.assertIs((a & b).within(b), True)
            for count in (0, 1, 5, 13, 14, 20):
                self.assertEqual(list(a.rest(count).each_place()), sorted(set(range(count)) - one))
            self.assertEqual((a.pairs, b.pairs), before)
            for place in range(15):
                self.assertIs(place in a, place in one)

    def test_all_small_sets(self):
        sets = [[k for k in range(4) if mask >> k & 1] for mask in range(16)]
        for one, other in itertools.product(sets, repeat=2):
            a, b = Stretches.covering(one), Stretches.covering(other)
            self.assertEqual(list((a ^ b).each_place()), sorted(set(one) ^ set(other)))
            self.assertEqual(list((a - b).each_place()), sorted(set(one) - set(other)))
            self.assertIs(a.within(b), set(one) <= set(other))

    def test_large_stretches(self):
        whole = Stretches([(0, END)])
        odd = Stretches([(k * 1000, k * 1000 + 500) for k in range(1000)])
        self.assertEqual(whole.total(), END)
        self.assertEqual((whole & odd).pairs, odd.pairs)
        self.assertEqual((whole - odd).total(), END - 500000)
        self.assertEqual((whole ^ odd).pairs, (whole - odd).pairs)
        self.assertEqual((odd | whole).pairs, ((0, END),))
        self.assertEqual((odd - whole).pairs, ())
        self.assertEqual(whole.rest(END).pairs, ())
        self.assertEqual(odd.rest(END).pairs, (whole - odd).pairs)
        self.assertEqual(Stretches().rest(END).pairs, ((0, END),))
        self.assertIs(odd.within(whole), True)
        self.assertIs(whole.within(odd), False)
        self.assertIs(END // 2 in whole, True)
        self.assertEqual(Stretches([(END - 1, END)]).rest(END).pairs, ((0, END - 1),))
        self.assertEqual((Stretches([(0, 1)]) | Stretches([(END - 1, END)])).pairs, ((0, 1), (END - 1, END)))


class PlacesTest(unittest.TestCase):
    def test_each_place_is_a_generator(self):
        made = Stretches([(2, 4), (0, 1), (END - 1, END)])
        self.assertTrue(inspect.isgenerator(made.each_place()))
        self.assertEqual(list(made.each_place()), [0, 2, 3, END - 1])
        places = Stretches([(5, END)]).each_place()
        self.assertEqual([next(places), next(places)], [5, 6])
        self.assertEqual(list(Stretches().each_place()), [])

    def test_rest(self):
        made = Stretches([(2, 4), (7, 9)])
        for count, pairs in ((0, ()), (2, ((0, 2),)), (3, ((0, 2),)), (5, ((0, 2), (4, 5))), (8, ((0, 2), (4, 7))),
                             (10, ((0, 2), (4, 7), (9, 10)))):
            self.assertEqual(made.rest(count).pairs, pairs)

    def test_moved(self):
        made = Stretches([(0, 2), (4, 6)])
        places = [9, None, 0, 0, 8, 3, 1]
        self.assertEqual(check_unchanged(self, made.moved, places).pairs, ((3, 4), (8, 10)))
        self.assertEqual(made.moved(tuple(places)).pairs, ((3, 4), (8, 10)))
        self.assertEqual(made.moved([5, 5, 5, 5, 5, 5]).pairs, ((5, 6),))
        self.assertEqual(made.moved([None] * 6).pairs, ())
        self.assertEqual(Stretches().moved([1]).pairs, ())
        self.assertEqual(made.moved([0, END - 1, 2, 2, 3, 1]).pairs, ((0, 2), (3, 4), (END - 1, END)))
        self.assertEqual(made.pairs, ((0, 2), (4, 6)))

    def test_within(self):
        cases = (((), (), True), ((), ((0, 1),), True), (((0, 1),), (), False), (((2, 3),), ((0, 9),), True),
                 (((0, 1), (8, 9)), ((0, 9),), True), (((0, 2),), ((0, 1), (2, 3)), False))
        for one, other, held in cases:
            self.assertIs(Stretches(one).within(Stretches(other)), held)


if __name__ == "__main__":
    unittest.main()
