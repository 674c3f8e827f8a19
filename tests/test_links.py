import itertools
import random
import unittest

from colonnade.errors import BadCells, BadChain
from colonnade.links import Base, Link, Pick, Runs, Steps, link_named

from tests.helpers import check_raises, check_unchanged

KINDS = (Link, Runs, Steps, Base, Pick)


class LinksTest(unittest.TestCase):
    def test_class_values(self):
        told = [(kind.NAME, kind.KEEPS) for kind in KINDS]
        self.assertEqual(told, [("", "value"), ("runs", "value"), ("steps", "none"),
                                ("base", "distance"), ("pick", "order")])
        for kind in KINDS[1:]:
            self.assertTrue(issubclass(kind, Link))

    def test_parted(self):
        numbers = [70, 70, 70, 72, -1]
        cases = (
            (Link, ([], numbers)), (Runs, ([3, 3, 1, 1], [70, 72, -1])),
            (Steps, ([], [70, 0, 0, 2, -73])), (Base, ([-1], [71, 71, 71, 73, 0])),
            (Pick, ([3, -1, 70, 72], [1, 1, 1, 2, 0])),
        )
        for kind, parts in cases:
            self.assertEqual(check_unchanged(self, kind().parted, numbers), parts)

    def test_one_number(self):
        cases = ((Link, ([], [-7])), (Runs, ([1, 1], [-7])), (Steps, ([], [-7])), (Base, ([-7], [0])),
                 (Pick, ([1, -7], [0])))
        for kind, parts in cases:
            self.assertEqual(kind().parted([-7]), parts)
            self.assertEqual(kind().joined(*parts), [-7])

    def test_there_and_back(self):
        draw = random.Random(5)
        for count in (1, 2, 3, 10, 998, 999):
            for spread in (0, 1, 3, 10 ** 12):
                numbers = [draw.randint(-spread, spread) for _ in range(count)]
                for kind in KINDS:
                    link = kind()
                    own, inner = link.parted(numbers)
                    self.assertEqual(check_unchanged(self, link.joined, own, inner), numbers)
                    self.assertEqual(check_unchanged(self, link.own_count, own + inner), len(own))
                    self.assertEqual(link.inner_count(own, count), len(inner))

    def test_beyond_999_numbers(self):
        numbers = list(range(1000))
        for kind in KINDS:
            own, inner = kind().parted(numbers)
            check_raises(self, BadCells, {}, kind().joined, own, inner)
        check_raises(self, BadCells, {}, Runs().joined, [1, 1000], [5])
        check_raises(self, BadCells, {}, Runs().joined, [2, 10 ** 30, 1], [5, 6])
        self.assertEqual(Runs().joined([2, 998, 1], [5, 6]), [5] * 998 + [6])

    def test_results_are_new(self):
        numbers = [1, 2]
        own, inner = Link().parted(numbers)
        inner.append(3)
        Link().joined([], numbers).append(3)
        self.assertEqual(numbers, [1, 2])

    def test_joined_refuses(self):
        cases = (
            (Link, [], []), (Link, [1], [1]),
            (Runs, [], []), (Runs, [0], []), (Runs, [1], [5]), (Runs, [1, 0], [5]), (Runs, [1, -1], [5]),
            (Runs, [2, 1, 0], [5, 6]), (Runs, [2, 1, 1], [5, 5]), (Runs, [2, 1, 1], [5]),
            (Runs, [1, 1], [5, 6]), (Runs, [1, 1, 1], [5, 6]), (Runs, [2, 1], [5, 6]), (Runs, [-1], []),
            (Runs, [3, 2, 3, -1], [5, 6, 7]), (Runs, [1, 2], []),
            (Steps, [], []), (Steps, [0], [1]),
            (Base, [], [0]), (Base, [5], []), (Base, [5, 6], [0]), (Base, [5], [1]), (Base, [5], [-1, 0]),
            (Base, [5], [1, 2]),
            (Pick, [], [0]), (Pick, [0], [0]), (Pick, [0], []), (Pick, [1, 5], []), (Pick, [2, 5], [0, 0]),
            (Pick, [1, 5, 6], [0, 1]), (Pick, [2, 6, 5], [0, 1]), (Pick, [2, 5, 5], [0, 1]),
            (Pick, [2, 5, 6], [0, 0]), (Pick, [2, 5, 6], [1]), (Pick, [2, 5, 6], [0, 1, 2]),
            (Pick, [2, 5, 6], [0, 1, -1]), (Pick, [1, 5], [1]), (Pick, [-1], [0]),
        )
        for kind, own, inner in cases:
            check_raises(self, BadCells, {}, kind().joined, own, inner)

    def test_joined_accepts_just_what_is_parted(self):
        small = (-1, 0, 1, 2)
        lists = [list(numbers) for many in range(4) for numbers in itertools.product(small, repeat=many)]
        for kind in KINDS:
            for own, inner in itertools.product(lists, lists):
                try:
                    numbers = kind().joined(own, inner)
                except BadCells:
                    continue
                self.assertEqual(kind().parted(numbers), (own, inner))

    def test_own_count(self):
        cases = ((Link, [], 0), (Link, [5], 0), (Steps, [], 0), (Steps, [9, 9], 0), (Base, [5], 1), (Base, [-5, 1], 1),
                 (Runs, [1, 5], 2), (Runs, [2, 5, 6, 7, 8], 3), (Pick, [1, 5], 2), (Pick, [2, 9, 1, 0], 3))
        for kind, cells, many in cases:
            self.assertEqual(kind().own_count(cells), many)

    def test_own_count_refuses(self):
        check_raises(self, BadCells, {}, Base().own_count, [])
        for kind in (Runs, Pick):
            for cells in ([], [0], [-1], [0, 1], [1], [2, 5], [3, 1, 1], [10 ** 20, 1], [-2, 1, 1]):
                check_raises(self, BadCells, {}, kind().own_count, cells)

    def test_inner_count(self):
        self.assertEqual(Runs().inner_count([3, 1, 1, 1], 77), 3)
        for kind in (Link, Steps, Base, Pick):
            self.assertEqual(kind().inner_count([3, 1, 1, 1], 77), 77)

    def test_link_named(self):
        for kind in KINDS[1:]:
            self.assertIs(link_named(kind.NAME).__class__, kind)
        for name in ("", "plain", "lanes", "Runs", "runs ", "link"):
            check_raises(self, BadChain, {"text": name}, link_named, name)


if __name__ == "__main__":
    unittest.main()
