import inspect
import itertools
import random
import unittest

from colonnade.chains import Chain, all_chains
from colonnade.cutting import Cutting, block_price, cheapest_chain, cheapest_cutting
from colonnade.errors import BadChain, Unfit

from tests.helpers import check_raises, check_unchanged

CHAINS = ["plain", "runs plain", "base lanes", "runs pick lanes", "steps lanes"]


def cells_of(text, numbers):
    try:
        return len(Chain(text).write(numbers))
    except Unfit:
        return None


def least_cells(numbers, chains):
    counts = [cells_of(text, numbers) for text in chains]
    least = min(many for many in counts if many is not None)
    return least, chains[counts.index(least)]


def price_of(columns, chains, head, start, end):
    return head + sum(least_cells(column[start:end], chains)[0] for column in columns)


def all_cuttings(count, most):
    for many in range(count):
        for inner in itertools.combinations(range(1, count), many):
            borders = [0, *inner, count]
            if all(end - start <= most for start, end in zip(borders, borders[1:])):
                yield borders


class ChainsTest(unittest.TestCase):
    def test_first_of_equally_short_ones(self):
        numbers = [5, 6, 7]
        self.assertEqual(cheapest_chain(numbers, ["plain", "steps plain"]), (3, "plain"))
        self.assertEqual(cheapest_chain(numbers, ["steps plain", "plain"]), (3, "steps plain"))
        self.assertEqual(cheapest_chain(numbers, ["base plain", "base lanes", "plain", "base lanes"]), (3, "base lanes"))
        self.assertEqual(check_unchanged(self, cheapest_chain, [5] * 9, CHAINS), (2, "steps lanes"))

    def test_lanes_that_do_not_fit(self):
        self.assertEqual(cheapest_chain([-1] * 20, ["lanes", "plain"]), (20, "plain"))
        self.assertEqual(cheapest_chain([2 ** 29] * 20, ["lanes", "steps lanes", "plain", "runs plain"]),
                         (3, "runs plain"))
        self.assertEqual(cheapest_chain([1] * 20, ["plain", "lanes"]), (2, "lanes"))

    def test_against_all_chains(self):
        draw = random.Random(2)
        every = list(all_chains())
        for _ in range(60):
            chains = draw.sample(every, 7) + ["plain"]
            draw.shuffle(chains)
            spread = draw.choice((1, 5, 10 ** 9 - 1))
            numbers = [draw.randint(-spread, spread) for _ in range(draw.randint(1, 12))]
            self.assertEqual(cheapest_chain(numbers, chains), least_cells(numbers, chains))


class PricesTest(unittest.TestCase):
    def test_block_price(self):
        columns = [[5, 5, 5, 9], [1, 2, 3, 4]]
        self.assertEqual(check_unchanged(self, block_price, columns, ["plain"], 7, 0, 3), 13)
        self.assertEqual(block_price(columns, ["plain", "runs plain"], 7, 0, 4), 15)
        self.assertEqual(block_price(columns, ["plain"], 0, 3, 4), 2)
        for start, end in itertools.combinations(range(5), 2):
            self.assertEqual(block_price(columns, CHAINS, 3, start, end), price_of(columns, CHAINS, 3, start, end))

    def test_bad_chains(self):
        chains = ["plain", "runs", "x", "lanes"]
        check_raises(self, BadChain, {"text": "runs"}, cheapest_chain, [1], chains)
        check_raises(self, BadChain, {"text": "runs"}, block_price, [[1]], chains, 0, 0, 1)
        check_raises(self, BadChain, {"text": "runs"}, cheapest_cutting, [[1]], chains)
        check_raises(self, BadChain, {"text": ""}, cheapest_cutting, [[1]], ["plain", ""], most=1, head=1)


class CuttingTest(unittest.TestCase):
    def check_cutting(self, columns, chains, most, head):
        count = len(columns[0])
        cutting = check_unchanged(self, cheapest_cutting, columns, chains, most=most, head=head)
        blocks = {(start, end): price_of(columns, chains, head, start, end)
                  for start in range(count) for end in range(start + 1, min(count, start + most) + 1)}
        least = [0]
        for border in range(1, count + 1):
            least.append(min(sum(blocks[block] for block in zip(borders, borders[1:]))
                             for borders in all_cuttings(border, most)))
        self.assertEqual(cutting.prices, tuple(least))
        self.assertEqual(cutting.price, least[-1])
        borders = [0, *cutting.ends]
        self.assertEqual(borders[-1], count)
        self.assertEqual(sum(blocks[block] for block in zip(borders, borders[1:])), cutting.price)
        for one in (cutting.ends, cutting.prices):
            self.assertIs(one.__class__, tuple)

    def test_small_cases_against_all_cuttings(self):
        draw = random.Random(4)
        for count in range(1, 9):
            for _ in range(8):
                spread = draw.choice((0, 1, 3, 10 ** 9 - 1))
                columns = [[draw.randint(-spread, spread) for _ in range(count)] for _ in range(draw.randint(1, 3))]
                chains = draw.choice((["plain"], CHAINS, ["lanes", "plain"], ["steps runs plain", "plain"]))
                self.check_cutting(columns, chains, draw.choice((1, 2, 3, 60)), draw.choice((0, 1, 2, 9)))

    def test_defaults(self):
        columns = [[1] * 20]
        cutting = cheapest_cutting(columns, ["plain"])
        self.assertEqual(cutting.price, 20 + 3 * 2)
        self.assertLessEqual(max(b - a for a, b in zip((0, *cutting.ends), cutting.ends)), 8)
        self.assertEqual(cheapest_cutting(columns, ["plain"], most=20).price, 22)
        self.assertEqual(cheapest_cutting(columns, ["plain"], head=0).price, 20)
        parameters = inspect.signature(cheapest_cutting).parameters
        self.assertEqual([parameters[name].kind.name for name in ("most", "head")], ["KEYWORD_ONLY"] * 2)

    def test_longest(self):
        draw = random.Random(9)
        columns = [[draw.randint(0, 9) for _ in range(60)] for _ in range(4)]
        chains = ["plain", "lanes", "runs plain", "runs pick lanes", "steps base lanes", "base pick lanes",
                  "pick lanes", "steps pick runs plain"]
        cutting = cheapest_cutting(columns, chains, most=60, head=1000)
        self.assertEqual(cutting.ends, (60,))
        cutting = cheapest_cutting(columns, chains, most=4, head=0)
        self.assertEqual((len(cutting.prices), cutting.ends[-1]), (61, 60))

    def test_cutting_checks_nothing(self):
        ends, prices = [3, 1, "x"], [7, "y"]
        cutting = Cutting(ends, "z", prices)
        ends.append(4)
        self.assertEqual((cutting.ends, cutting.price, cutting.prices), ((3, 1, "x"), "z", (7, "y")))
        self.assertEqual(Cutting((), 0, ()).ends, ())


if __name__ == "__main__":
    unittest.main()
