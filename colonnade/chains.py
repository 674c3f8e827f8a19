"""Chains: lists of numbers written as cells by links and an end."""

from colonnade.errors import BadCells, BadChain, Unfit
from colonnade.lanes import GREATEST_WIDTH, lane_count, pack, unpack, width_of
from colonnade.links import link_named
from colonnade.relations import weakest
from colonnade.values import GREATEST_NUMBER, LEAST_NUMBER

LINKS = ("runs", "steps", "base", "pick")
ENDS = ("plain", "lanes")


def _check_chain(text):
    words = text.split(" ")
    names = words[:-1]
    if words[-1] not in ENDS or len(set(names)) != len(names):
        raise BadChain(text)
    for name in names:
        if name not in LINKS:
            raise BadChain(text)


def _read_lanes(cells, count):
    """Return the numbers whose width and words these cells are."""
    if not cells or not 1 <= cells[0] <= GREATEST_WIDTH:
        raise BadCells()
    if len(cells) - 1 != -(-count // lane_count(cells[0])):
        raise BadCells()
    numbers = unpack(cells[1:], cells[0], count)
    if width_of(numbers) != cells[0]:
        raise BadCells()
    return numbers


def _repeated_places(lengths):
    """Return for each index of a list the index of its run."""
    return [at for at, length in enumerate(lengths) for _ in range(length)]


class Chain:
    """A way to write lists of numbers as cells, and to read them."""

    def __init__(self, text):
        _check_chain(text)
        words = text.split(" ")
        self.text = text
        self.links = tuple(words[:-1])
        self.end = words[-1]
        self._steps = tuple([link_named(name) for name in self.links])

    @property
    def keeps(self):
        """The relation that numbers and their codes keep, whatever the numbers are."""
        relations = [link.KEEPS for link in self._steps]
        return weakest(*relations)

    def write(self, numbers):
        """Return the list of cells of the numbers."""
        cells = []
        for link in self._steps:
            own, numbers = link.parted(numbers)
            cells.extend(own)
        if self.end == "plain":
            return cells + list(numbers)
        try:
            width = width_of(numbers)
        except Unfit:
            raise Unfit(self.text) from None
        return cells + [width] + pack(numbers, width)

    def read(self, cells, count):
        """Return the so many numbers with these cells."""
        if count < 1:
            raise BadCells()
        parted = []
        inner_count = count
        for link in self._steps:
            own = cells[:link.own_count(cells)]
            parted.append((link, own, inner_count))
            inner_count = link.inner_count(own, inner_count)
            cells = cells[len(own):]
        numbers = self._read_end(cells, inner_count)
        for link, own, many in reversed(parted):
            numbers = link.joined_upto(own, numbers, many)
            if len(numbers) != many:
                raise BadCells()
        if min(numbers) < LEAST_NUMBER or max(numbers) > GREATEST_NUMBER:
            raise BadCells()
        return numbers

    def _read_end(self, cells, count):
        if self.end == "lanes":
            return _read_lanes(cells, count)
        if len(cells) != count:
            raise BadCells()
        return list(cells)

    def codes_of(self, numbers):
        """Return the list of the codes of all indexes."""
        places = list(range(len(numbers)))
        for link in self._steps:
            own, numbers = link.parted(numbers)
            if link.NAME == "runs":
                runs = _repeated_places(own[1:])
                places = [runs[place] for place in places]
        return [numbers[place] for place in places]

    def sample(self):
        """Return a list whose codes keep no more than the chain keeps; it may be empty."""
        if "steps" in self.links:
            return [0, 1, 2]
        if "pick" in self.links:
            return [0, 1, 3]
        return [1] if "base" in self.links else []

    def below(self, cells, count, bound):
        """Return the indexes whose numbers are less than the bound."""
        return [at for at, number in enumerate(self.read(cells, count)) if number < bound]


def _link_orders():
    """Return all tuples of different links, shorter ones first."""
    level = [()]
    orders = [()]
    for _ in LINKS:
        level = [(*order, name) for order in level for name in LINKS if name not in order]
        orders.extend(level)
    return orders


def all_chains():
    """Yield the texts of all chains."""
    for order in _link_orders():
        for end in ENDS:
            yield " ".join([*order, end])


def joined_cells(chain, first, first_count, second, second_count):
    """Return the cells of the numbers of two lists of cells, one after the other."""
    writer = Chain(chain)
    numbers = writer.read(first, first_count)
    return writer.write(numbers + writer.read(second, second_count))


def cut_cells(chain, cells, count, start, end):
    """Return the cells of the numbers with the indexes from start to end - 1."""
    writer = Chain(chain)
    return writer.write(writer.read(cells, count)[start:end])
