"""Cuttings: columns divided into blocks whose cells are the fewest."""

from colonnade.chains import Chain
from colonnade.errors import Unfit


def _writers(chains):
    return [Chain(text) for text in chains]


def _fewest_cells(numbers, writers):
    """Return the least number of cells, and the text of the first chain that has it."""
    fewest = None
    for writer in writers:
        try:
            many = len(writer.write(numbers))
        except Unfit:
            continue
        if fewest is None or many < fewest[0]:
            fewest = (many, writer.text)
    return fewest


def _price(columns, writers, head, start, end):
    return head + sum([_fewest_cells(column[start:end], writers)[0] for column in columns])


def cheapest_chain(numbers, chains):
    """Return the least number of cells, and the first chain that writes the numbers with so many."""
    return _fewest_cells(numbers, _writers(chains))


def block_price(columns, chains, head, start, end):
    """Return the price of the block of the rows from start to end - 1."""
    return _price(columns, _writers(chains), head, start, end)


class Cutting:
    """The ends of the blocks, their price, and border prices."""

    def __init__(self, ends, price, prices):
        self.ends = tuple(ends)
        self.price = price
        self.prices = tuple(prices)


def _ends_of(starts):
    """Return the ends of the blocks, given for each border where its last block starts."""
    ends = []
    border = len(starts) - 1
    while border > 0:
        ends.append(border)
        border = starts[border]
    return ends[::-1]


def cheapest_cutting(columns, chains, *, most=8, head=2):
    """Return a cheapest cutting with the least border prices."""
    writers = _writers(chains)
    prices = [0]
    starts = [0]
    for end in range(1, len(columns[0]) + 1):
        offers = []
        for start in range(max(0, end - most), end):
            offers.append((prices[start] + _price(columns, writers, head, start, end), start))
        price, start = min(offers)
        prices.append(price)
        starts.append(start)
    return Cutting(_ends_of(starts), prices[-1], prices)
