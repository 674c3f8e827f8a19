"""Comers: how many new codes find a place between the codes of a row."""

from colonnade.errors import BadCode, NoPlace
from colonnade.values import is_integer_from


def _neighbours(row, room, rank):
    low = row[rank - 1] if rank > 0 else -1
    high = row[rank] if rank < len(row) else room
    return (low, high)


def _middle(low, high):
    return low + (high - low) // 2


def _halvings(span):
    """Return the greatest k with 2 ** k not greater than the span."""
    return span.bit_length() - 1


def spans(row, room):
    """Return the list of the spans at all ranks."""
    codes = [-1, *row, room]
    return [high - low for low, high in zip(codes, codes[1:])]


def withstands(row, room):
    """Return the number of comers that the row withstands."""
    return min([_halvings(span) for span in spans(row, room)])


def _weakest_rank(row, room):
    """Return the rank of the first span from which the row's number comes."""
    return [_halvings(span) for span in spans(row, room)].index(withstands(row, room))


def place_comer(row, room, rank):
    """Return the code that the middle rule gives."""
    low, high = _neighbours(row, room, rank)
    if high - low < 2:
        raise NoPlace(rank)
    return _middle(low, high)


def comers_placed(row, room, ranks):
    """Return how many comers the middle rule places before the first one without a place."""
    codes = list(row)
    for placed, rank in enumerate(ranks):
        low, high = _neighbours(codes, room, rank)
        if high - low < 2:
            return placed
        codes.insert(rank, _middle(low, high))
    return len(ranks)


def breaking(row, room):
    """Return ranks of comers that the middle rule does not place all."""
    return [_weakest_rank(row, room)] * (withstands(row, room) + 1)


class Foe:
    """Chooses ranks so that no way of giving codes places more comers than the row withstands."""

    def __init__(self, row, room):
        self.row = tuple(row)
        self.comers = 0
        self._room = room
        self._narrow = _weakest_rank(self.row, room)
        self.rank = self._open_rank()

    def _open_rank(self):
        low, high = _neighbours(self.row, self._room, self._narrow)
        return self._narrow if high - low > 1 else None

    def told(self, code):
        """Take the code that the next comer was given."""
        at = self._narrow
        if self.rank is None:
            raise NoPlace(at)
        low, high = _neighbours(self.row, self._room, at)
        if not is_integer_from(code, low + 1, high - 1):
            raise BadCode(code)
        self.row = self.row[:at] + (code,) + self.row[at:]
        self.comers += 1
        if high - code < code - low:
            self._narrow = at + 1
        self.rank = self._open_rank()
