import random
import unittest

from colonnade.errors import BadCells, Unfit
from colonnade.lanes import lane_count, lanes_below, pack, unpack, width_of

from tests.helpers import check_raises, check_unchanged


class LanesTest(unittest.TestCase):
    def test_lane_count(self):
        for width, many in ((1, 30), (2, 20), (3, 15), (4, 12), (6, 8), (28, 2), (29, 2)):
            self.assertEqual(lane_count(width), many)

    def test_width_of(self):
        for numbers, width in (([], 1), ([0], 1), ([1], 1), ([2], 2), ([0, 3, 4], 3), ([7, 8], 4),
                               ([2 ** 28 - 1], 28), ([2 ** 28], 29), ([2 ** 29 - 1, 0], 29)):
            self.assertEqual(check_unchanged(self, width_of, numbers), width)
        for numbers in ([-1], [2 ** 29], [0, 1, -5], [2 ** 60]):
            check_raises(self, Unfit, {"chain": "lanes"}, width_of, numbers)

    def test_pack(self):
        self.assertEqual(pack([], 1), [])
        self.assertEqual(pack([0, 2, 1], 2), [80])
        self.assertEqual(pack([1] * 30, 1), [sum(4 ** k for k in range(30))])
        self.assertEqual(pack([1] * 31, 1), [sum(4 ** k for k in range(30)), 1])
        top = 2 ** 29 - 1
        self.assertEqual(check_unchanged(self, pack, [top, top, 5], 29), [top + (top << 30), 5])

    def test_pack_refuses(self):
        for numbers, width in (([-1], 3), ([8], 3), ([0, 7, 8], 3), ([2], 1), ([2 ** 29], 29)):
            check_raises(self, Unfit, {"chain": "lanes"}, pack, numbers, width)

    def test_there_and_back(self):
        draw = random.Random(7)
        for width in range(1, 30):
            many = lane_count(width)
            for count in (0, 1, many - 1, many, many + 1, 3 * many):
                numbers = [draw.randrange(2 ** width) for _ in range(count)]
                words = pack(numbers, width)
                self.assertEqual(len(words), -(-count // many))
                self.assertEqual(check_unchanged(self, unpack, words, width, count), numbers)

    def test_unpack_refuses(self):
        cases = (
            ([8], 3, 1), ([1 << 3], 3, 15), ([1 << 59], 3, 15), ([1 << 7], 3, 2),
            ([1 << 60], 3, 15), ([1 << 200], 3, 15), ([-1], 3, 15), ([-(1 << 60)], 3, 15),
            ([1 << 59], 4, 12), ([1 << 4], 4, 12), ([1 << 55], 6, 8), ([1 << 56], 6, 8), ([1 << 59], 28, 2), ([1 << 58], 28, 2),
            ([], 3, 1), ([5], 3, 16), ([5, 5], 3, 15), ([5], 3, 0), ([0], 3, 0),
            ([5 + (1 << 4)], 3, 1), ([0, 1 << 4], 3, 16), ([1 << 29], 29, 1), ([1 << 59], 29, 2),
        )
        for words, width, count in cases:
            check_raises(self, BadCells, {}, unpack, words, width, count)

    def test_unpack_of_nothing(self):
        self.assertEqual(unpack([], 5, 0), [])

    def test_lanes_below(self):
        word = pack([0, 3, 7, 2], 3)[0]
        self.assertEqual(lanes_below(word, 3, 3)[:5], (True, False, False, True, True))
        self.assertEqual(lanes_below(word, 3, 0), (False,) * 15)
        self.assertEqual(lanes_below(word, 3, 8), (True,) * 15)
        draw = random.Random(8)
        for width in (1, 2, 7, 14, 28, 29):
            numbers = [draw.randrange(2 ** width) for _ in range(lane_count(width))]
            numbers[0] = 0
            numbers[-1] = 2 ** width - 1
            word = pack(numbers, width)[0]
            for bound in (0, 1, numbers[1], numbers[1] + 1, 2 ** width - 1, 2 ** width):
                below = lanes_below(word, width, bound)
                self.assertEqual(below, tuple(number < bound for number in numbers))
                self.assertIs(below[0], bound > 0)


if __name__ == "__main__":
    unittest.main()
