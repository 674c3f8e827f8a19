import random
import unittest

from colonnade.moments import ever_seen, gone_toggles, seen_at
from colonnade.stretches import Stretches

from tests.helpers import check_unchanged


def toggles_for(dice, most=8):
    """Return random toggles."""
    moments = sorted(dice.sample(range(most + 1), dice.randint(0, 5)))
    return [(moment, Stretches.covering([place for place in range(6) if dice.randint(0, 1)])) for moment in moments]


def is_seen(toggles, place, moment):
    return len([at for at, places in toggles if at <= moment and place in places]) % 2 == 1


def listed(toggles):
    return [(moment, places.pairs) for moment, places in toggles]


class SeenTest(unittest.TestCase):
    toggles = [(2, Stretches([(0, 4)])), (5, Stretches([(1, 2), (6, 7)])), (6, Stretches([(0, 2)]))]

    def test_in_front_of_at_and_behind_toggles(self):
        for moment, pairs in ((0, ()), (1, ()), (2, ((0, 4),)), (3, ((0, 4),)), (4, ((0, 4),)),
                              (5, ((0, 1), (2, 4), (6, 7))), (6, ((1, 4), (6, 7))), (7, ((1, 4), (6, 7))),
                              (999, ((1, 4), (6, 7)))):
            seen = check_unchanged(self, seen_at, self.toggles, moment)
            self.assertIs(seen.__class__, Stretches)
            self.assertEqual(seen.pairs, pairs)

    def test_no_toggles(self):
        self.assertEqual(seen_at([], 5).pairs, ())
        self.assertEqual(ever_seen([], [0, 3]).pairs, ())
        self.assertEqual(gone_toggles([], [0, 3]), [])

    def test_ever_seen(self):
        for kept, pairs in (([0, 1], ()), ([2], ((0, 4),)), ([5], ((0, 1), (2, 4), (6, 7))), ([6], ((1, 4), (6, 7))),
                            ([2, 6], ((0, 4), (6, 7))), ([0, 5, 9], ((0, 4), (6, 7))), ([], ())):
            seen = check_unchanged(self, ever_seen, self.toggles, kept)
            self.assertIs(seen.__class__, Stretches)
            self.assertEqual(seen.pairs, pairs)

    def test_random_toggles(self):
        dice = random.Random(1)
        for _ in range(100):
            toggles = toggles_for(dice)
            for moment in range(10):
                seen = seen_at(toggles, moment)
                self.assertEqual([place in seen for place in range(7)],
                                 [is_seen(toggles, place, moment) for place in range(7)])
            kept = sorted(dice.sample(range(10), dice.randint(0, 4)))
            ever = ever_seen(toggles, kept)
            self.assertEqual([place in ever for place in range(7)],
                             [any(is_seen(toggles, place, moment) for moment in kept) for place in range(7)])


class GoneTest(unittest.TestCase):
    def test_toggles_move_to_the_next_kept_moment(self):
        toggles = [(1, Stretches([(0, 2)])), (3, Stretches([(2, 4)])), (4, Stretches([(5, 6)]))]
        for kept, gone in (
            ([1, 3, 4], listed(toggles)), ([0, 1, 2, 3, 4, 7], listed(toggles)),
            ([4], [(4, ((0, 4), (5, 6)))]), ([9], [(9, ((0, 4), (5, 6)))]),
            ([1, 4], [(1, ((0, 2),)), (4, ((2, 4), (5, 6)))]), ([2, 3, 9], [(2, ((0, 2),)), (3, ((2, 4),)), (9, ((5, 6),))]),
            ([0, 4], [(4, ((0, 4), (5, 6)))]),
        ):
            found = check_unchanged(self, gone_toggles, toggles, kept)
            self.assertEqual(listed(found), gone)
            self.assertTrue(all(places.__class__ is Stretches for moment, places in found))

    def test_toggles_that_meet_cancel_each_other(self):
        toggles = [(1, Stretches([(0, 4)])), (2, Stretches([(1, 2)])), (3, Stretches([(0, 1), (1, 2)])),
                   (5, Stretches([(2, 4)]))]
        for kept, gone in (
            ([2, 5], [(2, ((0, 1), (2, 4))), (5, ((0, 2), (2, 4)))]), ([3, 5], [(3, ((1, 4),)), (5, ((2, 4),))]),
            ([5], [(5, ((1, 2),))]), ([1, 5], [(1, ((0, 4),)), (5, ((0, 1), (2, 4)))]),
        ):
            self.assertEqual(listed(gone_toggles(toggles, kept)),
                             [(moment, Stretches(pairs).pairs) for moment, pairs in gone])

    def test_moments_without_toggled_places_are_left_out(self):
        toggles = [(1, Stretches([(0, 4)])), (2, Stretches([(0, 4)])), (4, Stretches([(9, 10)]))]
        self.assertEqual(listed(gone_toggles(toggles, [0, 2, 3, 4, 5])), [(4, ((9, 10),))])
        self.assertEqual(listed(gone_toggles(toggles[:2], [3])), [])
        self.assertEqual(listed(gone_toggles([(1, Stretches())], [1, 2])), [])

    def test_kept_moments_see_the_same(self):
        dice = random.Random(2)
        for _ in range(150):
            toggles = toggles_for(dice)
            kept = sorted(dice.sample(range(9), dice.randint(0, 4))) + [9]
            gone = gone_toggles(toggles, kept)
            for moment in kept:
                self.assertEqual(seen_at(gone, moment).pairs, seen_at(toggles, moment).pairs)
            self.assertEqual([moment for moment, places in gone if moment not in kept or not places.pairs], [])
            moved = {}
            for moment, places in toggles:
                for place in places.each_place():
                    key = (min(at for at in kept if at >= moment), place)
                    moved[key] = moved.get(key, 0) + 1
            self.assertEqual([(moment, place) for moment, places in gone for place in places.each_place()],
                             sorted(key for key, many in moved.items() if many % 2))

    def test_results_are_new(self):
        toggles = [(1, Stretches([(0, 4)]))]
        gone_toggles(toggles, [1]).clear()
        self.assertEqual(listed(gone_toggles(toggles, [1])), [(1, ((0, 4),))])


if __name__ == "__main__":
    unittest.main()
