import itertools
import random
import unittest

from colonnade.merging import merge_order, rounds_of, runs_of

from tests.helpers import check_unchanged


class Key:
    """A key that counts comparisons; it only knows what is less."""

    compared = 0

    def __init__(self, number):
        self.number = number

    def __lt__(self, other):
        Key.compared += 1
        return self.number < other.number


def rounds_by_merging(runs):
    """Count the rounds in which so many runs are merged, neighbours with neighbours."""
    many = 0
    while runs > 1:
        runs = runs // 2 + runs % 2
        many += 1
    return many


class RunsTest(unittest.TestCase):
    def test_runs(self):
        for keys, runs in (
            ([], []), ([5], [(0, 1)]), ([5, 5], [(0, 2)]), ([1, 2, 2, 3], [(0, 4)]), ([2, 1], [(0, 1), (1, 2)]),
            ([3, 2, 1], [(0, 1), (1, 2), (2, 3)]), ([1, 3, 2, 2, 4, 0], [(0, 2), (2, 5), (5, 6)]),
            (["b", "c", "a"], [(0, 2), (2, 3)]), ([(1, "b"), (1, "c"), (0, "z")], [(0, 2), (2, 3)]),
            ([(), (), ()], [(0, 3)]), ([-1, -2], [(0, 1), (1, 2)]),
        ):
            found = check_unchanged(self, runs_of, keys)
            self.assertEqual(found, runs)
            self.assertTrue(all(run.__class__ is tuple for run in found))


class OrderTest(unittest.TestCase):
    def test_orders(self):
        for keys, order in (
            ([], []), ([5], [0]), ([5, 5, 5], [0, 1, 2]), ([3, 2, 1], [2, 1, 0]), ([2, 1, 2, 1], [1, 3, 0, 2]),
            (["b", "a", "b", "a"], [1, 3, 0, 2]), ([(1, "b"), (1, "a"), (0, "c")], [2, 1, 0]), ([(), ()], [0, 1]),
            ([1, 1, 0, 0, 1, 0], [2, 3, 5, 0, 1, 4]),
        ):
            self.assertEqual(check_unchanged(self, merge_order, keys), order)

    def test_all_short_lists(self):
        for many in range(6):
            for keys in itertools.product(range(3), repeat=many):
                keys = list(keys)
                self.assertEqual(merge_order(keys), sorted(range(many), key=lambda at: keys[at]))
                self.assertEqual([at for start, end in runs_of(keys) for at in range(start, end)], list(range(many)))

    def test_like_a_stable_sorting(self):
        dice = random.Random(3)
        for _ in range(60):
            many = dice.choice((1, 2, 3, 7, 40, 200))
            for keys in ([dice.randint(-9, 9) for _ in range(many)],
                         [(dice.randint(0, 2), dice.choice("abc")) for _ in range(many)],
                         ["".join(dice.choice("ab") for _ in range(3)) for _ in range(many)]):
                self.assertEqual(merge_order(keys), sorted(range(many), key=lambda at: keys[at]))

    def test_many_keys(self):
        keys = [(at * 7919) % 101 for at in range(999)]
        self.assertEqual(merge_order(keys), sorted(range(999), key=lambda at: keys[at]))
        self.assertEqual(merge_order(list(range(999, 0, -1))), list(range(998, -1, -1)))

    def test_made_by_merging_in_rounds(self):
        # Each round compares a key at most once for each key that is placed; runs are not compared again.
        for many in (2, 3, 8, 9, 31, 100):
            keys = [Key(number) for number in range(many, 0, -1)]
            Key.compared = 0
            self.assertEqual(merge_order(keys), list(range(many - 1, -1, -1)))
            self.assertLessEqual(Key.compared, many - 1 + many * rounds_by_merging(many))
        keys = [Key(number) for number in range(100)]
        Key.compared = 0
        merge_order(keys)
        self.assertEqual(Key.compared, 99)


class RoundsTest(unittest.TestCase):
    def test_rounds(self):
        for runs, rounds in ((0, 0), (1, 0), (2, 1), (3, 2), (4, 2), (5, 3), (8, 3), (9, 4), (16, 4), (17, 5), (999, 10)):
            keys = list(range(runs, 0, -1))
            self.assertEqual(len(runs_of(keys)), runs)
            self.assertEqual(check_unchanged(self, rounds_of, keys), rounds)
            self.assertEqual(rounds_by_merging(runs), rounds)
            if runs:
                self.assertEqual(rounds, min(k for k in range(20) if 2 ** k >= runs))

    def test_runs_count_and_not_keys(self):
        self.assertEqual(rounds_of(list(range(999))), 0)
        self.assertEqual(rounds_of([5, 5, 5]), 0)
        self.assertEqual(rounds_of([1, 2, 3, 1, 2, 3]), 1)
        self.assertEqual(rounds_of([1, 2, 1, 2, 1, 2]), 2)


if __name__ == "__main__":
    unittest.main()
