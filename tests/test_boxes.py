import itertools
import random
import unittest

from colonnade.boxes import bars_of, fewest_covers, hull, in_box
from colonnade.filters import Compare, Fixed, Pair, Within

from tests.helpers import check_unchanged


def fewest_by_trying(rows, test):
    """Return the fewest groups of a dividing into sure groups, found by trying all of them."""
    fewest = None
    for bars in itertools.product((False, True), repeat=max(len(rows) - 1, 0)):
        borders = [0] + [at + 1 for at, bar in enumerate(bars) if bar] + [len(rows)]
        groups = [rows[start:end] for start, end in zip(borders, borders[1:])] if rows else []
        if all(test.verdict(hull(group)) != "open" for group in groups):
            fewest = len(groups) if fewest is None else min(fewest, len(groups))
    return fewest


class HullTest(unittest.TestCase):
    def test_hull_of_one_row(self):
        self.assertEqual(hull([{"a": 5, "b": -2}]), {"a": (5, 5), "b": (-2, -2)})
        self.assertEqual(hull([{}]), {})

    def test_hull_of_several_rows(self):
        rows = [{"a": 5, "b": 0}, {"a": 3, "b": 9}, {"a": 4, "b": -1}]
        box = check_unchanged(self, hull, rows)
        self.assertEqual(box, {"a": (3, 5), "b": (-1, 9)})
        self.assertIs(box["a"].__class__, tuple)
        box["a"] = (0, 0)
        self.assertEqual(hull(rows)["a"], (3, 5))

    def test_hull_is_the_least_box(self):
        dice = random.Random(1)
        for _ in range(50):
            rows = [{"a": dice.randint(-4, 4), "b": dice.randint(-4, 4)} for _ in range(dice.randint(1, 4))]
            box = hull(rows)
            for column, (low, high) in box.items():
                self.assertTrue(all(in_box(row, box) for row in rows))
                for smaller in ((low + 1, high), (low, high - 1)):
                    self.assertFalse(all(in_box(row, {**box, column: smaller}) for row in rows))

    def test_in_box(self):
        box = {"a": (3, 5), "b": (0, 0)}
        for a, b, inside in ((3, 0, True), (5, 0, True), (4, 0, True), (2, 0, False), (6, 0, False),
                             (3, 1, False), (5, -1, False), (9, 9, False)):
            self.assertIs(check_unchanged(self, in_box, {"a": a, "b": b}, box), inside)
            self.assertIs(in_box({"c": 99, "a": a, "b": b}, box), inside)
        self.assertIs(in_box({"a": 1}, {}), True)


class CoversTest(unittest.TestCase):
    def test_no_rows_and_one_row(self):
        test = Compare("a", "<", 5)
        self.assertEqual(fewest_covers([], test), [])
        self.assertEqual(fewest_covers([{"a": 5}], test), [(0, 1, "never", {"a": (5, 5)})])
        self.assertEqual(fewest_covers([{"a": 4, "z": 7}], test), [(0, 1, "always", {"a": (4, 4), "z": (7, 7)})])

    def test_verdicts_and_hulls(self):
        rows = [{"a": 1}, {"a": 4}, {"a": 7}, {"a": 5}, {"a": 9}, {"a": 0}]
        covers = check_unchanged(self, fewest_covers, rows, Compare("a", "<", 5))
        self.assertEqual(covers, [
            (0, 2, "always", {"a": (1, 4)}), (2, 5, "never", {"a": (5, 9)}), (5, 6, "always", {"a": (0, 0)}),
        ])
        self.assertEqual(check_unchanged(self, bars_of, covers), [0, 2, 5])
        self.assertEqual(bars_of([]), [])

    def test_open_hull_divides_rows_that_are_chosen_alike(self):
        # 1 and 3 are both chosen, but the verdict on the box from 1 to 3 is open.
        covers = fewest_covers([{"a": 1}, {"a": 1}, {"a": 3}], Within("a", [1, 3]))
        self.assertEqual(covers, [(0, 2, "always", {"a": (1, 1)}), (2, 3, "always", {"a": (3, 3)})])

    def test_fixed(self):
        rows = [{"a": at} for at in range(4)]
        self.assertEqual(fewest_covers(rows, Fixed(True)), [(0, 4, "always", {"a": (0, 3)})])
        self.assertEqual(fewest_covers(rows, ~Fixed(True)), [(0, 4, "never", {"a": (0, 3)})])

    def test_against_all_dividings(self):
        dice = random.Random(2)
        low, far = Compare("a", "<", 2), Compare("b", ">=", 1)
        tests = (low, low & far, low | far, ~(low & ~far), Pair("a", "<=", "b"), Within("a", [0, 2]),
                 low | Compare("a", ">=", 2), Pair("a", "=", "a"))
        for test in tests:
            for many in range(8):
                rows = [{"a": dice.randint(0, 3), "b": dice.randint(0, 2)} for _ in range(many)]
                covers = fewest_covers(rows, test)
                self.assertEqual(len(covers), fewest_by_trying(rows, test), (test.text, rows))
                ends = [0]
                for start, end, reason, box in covers:
                    self.assertEqual(start, ends[-1])
                    self.assertEqual(box, hull(rows[start:end]))
                    self.assertIn(reason, ("always", "never"))
                    self.assertEqual(reason, test.verdict(box))
                    if end < len(rows):
                        self.assertEqual(test.verdict(hull(rows[start:end + 1])), "open")
                    ends.append(end)
                self.assertEqual(ends[-1], many)
                self.assertEqual(bars_of(covers), ends[:-1])


if __name__ == "__main__":
    unittest.main()
