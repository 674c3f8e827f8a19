import inspect
import itertools
import random
import unittest

from colonnade.chains import Chain, all_chains, cut_cells, joined_cells
from colonnade.errors import BadCells, BadChain, Unfit
from colonnade.relations import RELATIONS, is_enough, kept_by

from tests.helpers import check_raises, check_unchanged

LINKS = ("runs", "steps", "base", "pick")
TEXTS = [" ".join([*order, end]) for many in range(5) for order in itertools.permutations(LINKS, many)
         for end in ("plain", "lanes")]
NO_CHAINS = ("", "runs", "runs runs plain", "runs pick runs lanes", "plain lanes", "plain plain", "plain runs",
             "runs  plain", " plain", "plain ", "Plain", "RUNS plain", "runs,plain", "link plain", "runs_plain",
             "runs steps base pick", "lanes runs plain", "runs steps base pick runs plain")
LISTS = [
    [0], [7], [-1], [999999999], [-999999999], [2 ** 29 - 1], [2 ** 29], [5, 5], [5, 6], [6, 5],
    [-999999999, 999999999], [999999999, -999999999, 999999999], [0, 2 ** 29 - 1, 2 ** 29],
    [70, 70, 70, 72, 71], [3, 1, 4, 1, 5, 9, 2, 6, 5, 3, 5], [8] * 40, list(range(40)), [0, 1] * 20,
]


def codes_plainly(chain, numbers):
    """Point 10: follow what stands for each index through the links."""
    at = list(range(len(numbers)))
    now = list(numbers)
    for link in chain.links:
        if link == "runs":
            heads = [k for k in range(len(now)) if k == 0 or now[k] != now[k - 1]]
            at = [max(n for n, head in enumerate(heads) if head <= k) for k in at]
            now = [now[head] for head in heads]
        elif link == "steps":
            now = [now[k] - (now[k - 1] if k else 0) for k in range(len(now))]
        elif link == "base":
            now = [number - min(now) for number in now]
        else:
            now = [sorted(set(now)).index(number) for number in now]
    return [now[k] for k in at], now


class TextsTest(unittest.TestCase):
    def test_all_texts_in_order(self):
        self.assertTrue(inspect.isgenerator(all_chains()))
        self.assertEqual(list(all_chains()), TEXTS)
        self.assertEqual(len(set(all_chains())), 130)

    def test_attributes(self):
        for text in TEXTS:
            chain = Chain(text)
            self.assertEqual(chain.text, text)
            self.assertEqual((*chain.links, chain.end), tuple(text.split()))
            self.assertIs(chain.links.__class__, tuple)

    def test_no_chains(self):
        for text in NO_CHAINS:
            check_raises(self, BadChain, {"text": text}, Chain, text)
            check_raises(self, BadChain, {"text": text}, joined_cells, text, [], 1, [], 1)
            check_raises(self, BadChain, {"text": text}, cut_cells, text, [], 1, 0, 1)


class WritingTest(unittest.TestCase):
    def test_cells(self):
        cases = (
            ("plain", [5, -6], [5, -6]), ("lanes", [0, 2, 1], [2, 80]), ("lanes", [0], [1, 0]),
            ("runs base lanes", [70, 70, 70, 72, 71], [3, 3, 1, 1, 70, 2, 80]),
            ("steps plain", [5, 3, 3], [5, -2, 0]), ("base plain", [5, 3, 3], [3, 2, 0, 0]),
            ("pick plain", [5, 3, 3], [2, 3, 5, 1, 0, 0]), ("runs plain", [5, 3, 3], [2, 1, 2, 5, 3]),
            ("pick runs plain", [5, 3, 3], [2, 3, 5, 2, 1, 2, 1, 0]),
            ("runs pick base plain", [5, 3, 3], [2, 1, 2, 2, 3, 5, 0, 1, 0]),
            ("steps base lanes", [5, 3, 3], [-2, 3, 7 + (2 << 8)]),
        )
        for text, numbers, cells in cases:
            self.assertEqual(check_unchanged(self, Chain(text).write, numbers), cells, text)
            self.assertEqual(check_unchanged(self, Chain(text).read, cells, len(numbers)), numbers, text)

    def test_results_are_new(self):
        numbers = [1, 2]
        Chain("plain").write(numbers).append(3)
        Chain("plain").read(numbers, 2).append(3)
        Chain("plain").codes_of(numbers).append(3)
        self.assertEqual(numbers, [1, 2])

    def test_there_and_back_and_unfit(self):
        for text, numbers in itertools.product(TEXTS, LISTS):
            chain = Chain(text)
            _, last = codes_plainly(chain, numbers)
            if chain.end == "lanes" and not all(0 <= number < 2 ** 29 for number in last):
                check_raises(self, Unfit, {"chain": text}, chain.write, numbers)
                continue
            cells = chain.write(numbers)
            self.assertEqual(chain.read(cells, len(numbers)), numbers, (text, numbers))

    def test_999_numbers(self):
        draw = random.Random(11)
        for spread in (0, 2, 999999999):
            numbers = [draw.randint(-spread, spread) for _ in range(999)]
            for text in TEXTS:
                try:
                    cells = Chain(text).write(numbers)
                except Unfit:
                    self.assertTrue(text.endswith("lanes"))
                    continue
                self.assertEqual(Chain(text).read(cells, 999), numbers)

    def test_somewhat_more_numbers_raise_no_error(self):
        numbers = [k // 3 for k in range(1001)]
        for text in TEXTS:
            try:
                cells = Chain(text).write(numbers)
            except Unfit:
                continue
            self.assertEqual(Chain(text).read(cells, 1001), numbers)


class ReadingTest(unittest.TestCase):
    def check_read(self, chain, cells, count):
        """Cells are refused, or they are those of the list that is read."""
        try:
            numbers = chain.read(cells, count)
        except BadCells:
            return False
        self.assertEqual((chain.write(numbers), len(numbers)), (cells, count), chain.text)
        self.assertTrue(all(-999999999 <= number <= 999999999 for number in numbers))
        return True

    def test_every_small_list_of_cells(self):
        found = 0
        for text in TEXTS:
            chain = Chain(text)
            for many in range(6):
                for cells in itertools.product((-1, 0, 1, 2), repeat=many):
                    for count in (0, 1, 2, 3):
                        found += self.check_read(chain, list(cells), count)
        self.assertGreater(found, 1000)

    def test_changed_cells(self):
        for text, numbers in itertools.product(TEXTS, ([4, 4, 5, 9, 5], [6], [1, 2, 3])):
            chain = Chain(text)
            try:
                cells = chain.write(numbers)
            except Unfit:
                continue
            for at in range(len(cells)):
                for worth in (cells[at] - 1, cells[at] + 1, -cells[at] - 1, 2 ** 59, 2 ** 60, 0):
                    self.check_read(chain, [*cells[:at], worth, *cells[at + 1:]], len(numbers))
                self.check_read(chain, cells[:at] + cells[at + 1:], len(numbers))
                for other in range(at):
                    changed = list(cells)
                    changed[at], changed[other] = cells[other], cells[at]
                    self.check_read(chain, changed, len(numbers))
            for more in (cells + [0], [0] + cells, cells + [1], [], cells[:-1]):
                self.check_read(chain, more, len(numbers))
            for count in (-1, 0, len(numbers) - 1, len(numbers) + 1, 998, 999):
                # Lanes that are left hold 0, so they may be read as one more number.
                if chain.end == "plain" or count < 1 or count > 900:
                    check_raises(self, BadCells, {}, chain.read, cells, count)
                else:
                    self.check_read(chain, cells, count)

    def test_refused(self):
        cases = (
            ("plain", [], 1), ("plain", [], 0), ("plain", [5], 2), ("plain", [5, 6], 1),
            ("plain", [1000000000], 1), ("plain", [-1000000000], 1), ("plain", [0], 0),
            ("lanes", [], 1), ("lanes", [2], 1), ("lanes", [2, 1], 1), ("lanes", [0, 0], 1), ("lanes", [30, 1], 1),
            ("lanes", [1, 1, 0], 1), ("lanes", [1, 4], 1), ("lanes", [-1, 1], 1), ("lanes", [3, (2 << 4) + (1 << 8)], 3),
            ("base plain", [999999999, 0, 1], 2), ("base plain", [5, 1], 1), ("base plain", [-1000000000, 0, 5], 2),
            ("steps plain", [999999999, 1], 2), ("steps plain", [-999999999, -1], 2),
            ("runs plain", [1, 2, 5], 1), ("runs plain", [1, 2, 5], 3), ("runs plain", [2, 1, 1, 5, 5], 2),
            ("runs plain", [2, 1, 10 ** 30, 5, 6], 2), ("pick plain", [2, 6, 5, 0, 1], 2),
            ("pick plain", [1, 1000000000, 0], 1), ("pick runs plain", [2, 5, 6, 1, 2, 0], 2),
            ("base pick plain", [5, 2, 1, 2, 0, 1], 2), ("base steps plain", [5, 1, -2], 2),
        )
        for text, cells, count in cases:
            check_raises(self, BadCells, {}, Chain(text).read, cells, count)
        self.assertEqual(Chain("base plain").read([999999998, 0, 1], 2), [999999998, 999999999])
        self.assertEqual(Chain("steps plain").read([2000000000 - 1000000001, -999999999], 2), [999999999, 0])

    def test_steps_through_wider_numbers(self):
        numbers = [999999999, -999999999, 999999999]
        cells = Chain("steps plain").write(numbers)
        self.assertEqual(cells, [999999999, -1999999998, 1999999998])
        self.assertEqual(Chain("steps plain").read(cells, 3), numbers)

    def test_below(self):
        for text, numbers in itertools.product(TEXTS, ([4, 4, 5, 9, 5], [2, 0, 1], [-3, 8])):
            chain = Chain(text)
            try:
                cells = chain.write(numbers)
            except Unfit:
                continue
            for bound in (-10 ** 12, -3, 0, 4, 5, 6, 9, 10, 10 ** 12):
                below = [at for at, number in enumerate(numbers) if number < bound]
                self.assertEqual(check_unchanged(self, chain.below, cells, len(numbers), bound), below)


class CodesTest(unittest.TestCase):
    def test_codes(self):
        self.assertEqual(Chain("runs base plain").codes_of([70, 70, 72]), [0, 0, 2])
        self.assertEqual(Chain("steps lanes").codes_of([70, 70, 69]), [70, 0, -1])
        self.assertEqual(Chain("runs steps plain").codes_of([4, 4, 6, 5, 5]), [4, 4, 2, -1, -1])
        self.assertEqual(Chain("lanes").codes_of([-5, 2 ** 29]), [-5, 2 ** 29])
        for text, numbers in itertools.product(TEXTS, LISTS):
            chain = Chain(text)
            codes = check_unchanged(self, chain.codes_of, numbers)
            self.assertEqual(codes, codes_plainly(chain, numbers)[0], (text, numbers))
            self.assertTrue(is_enough(kept_by(list(zip(numbers, codes))), chain.keeps))

    def test_keeps_and_sample(self):
        strength = {"runs": "value", "steps": "none", "base": "distance", "pick": "order"}
        samples = {"none": [0, 1, 2], "order": [0, 1, 3], "distance": [1], "value": []}
        for text in TEXTS:
            chain = Chain(text)
            relations = [strength[link] for link in chain.links]
            keeps = min(relations, key=RELATIONS.index, default="value")
            self.assertEqual(chain.keeps, keeps, text)
            sample = chain.sample()
            self.assertEqual(sample, samples[keeps], text)
            self.assertEqual(kept_by(list(zip(sample, chain.codes_of(sample)))), keeps, text)
            sample.append(5)
            self.assertEqual(chain.sample(), samples[keeps])


class JoiningTest(unittest.TestCase):
    def test_joined_and_cut(self):
        first, second = [4, 4, 5], [5, 9]
        for text in TEXTS:
            chain = Chain(text)
            try:
                one, other, both = chain.write(first), chain.write(second), chain.write(first + second)
            except Unfit:
                continue
            self.assertEqual(check_unchanged(self, joined_cells, text, one, 3, other, 2), both)
            for start, end in itertools.combinations(range(6), 2):
                part = (first + second)[start:end]
                try:
                    cells = chain.write(part)
                except Unfit:
                    check_raises(self, Unfit, {"chain": text}, cut_cells, text, both, 5, start, end)
                    continue
                self.assertEqual(check_unchanged(self, cut_cells, text, both, 5, start, end), cells)

    def test_errors_in_their_order(self):
        check_raises(self, BadChain, {"text": "x"}, joined_cells, "x", [], 1, [], 1)
        check_raises(self, BadCells, {}, joined_cells, "steps lanes", [], 1, [2, 2], 1)
        check_raises(self, BadCells, {}, joined_cells, "steps lanes", [2, 2], 1, [2, 1], 1)
        check_raises(self, BadCells, {}, joined_cells, "steps lanes", [2, 2], 99, [1, 1], 1)
        check_raises(self, BadCells, {}, joined_cells, "plain", [2, 2], 2, [1, 1], 1)
        check_raises(self, Unfit, {"chain": "steps lanes"}, joined_cells, "steps lanes", [2, 2], 1, [1, 1], 1)
        check_raises(self, BadChain, {"text": "runs"}, cut_cells, "runs", [], 1, 0, 1)
        check_raises(self, BadCells, {}, cut_cells, "plain", [1, 2], 3, 0, 1)
        check_raises(self, BadCells, {}, cut_cells, "plain", [1, 1000000000], 2, 0, 1)
        text = "base steps lanes"
        cells = Chain(text).write([5, 6, 8])
        self.assertEqual(cut_cells(text, cells, 3, 1, 3), Chain(text).write([6, 8]))
        text = "pick steps lanes"
        check_raises(self, Unfit, {"chain": text}, joined_cells, text, Chain(text).write([7, 8]), 2,
                     Chain(text).write([1]), 1)

    def test_longest(self):
        first = Chain("plain").write(list(range(500)))
        second = Chain("plain").write(list(range(499)))
        self.assertEqual(joined_cells("plain", first, 500, second, 499), first + second)


if __name__ == "__main__":
    unittest.main()
