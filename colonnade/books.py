"""Books: codes for the values of one domain."""

from colonnade.errors import BadBook, BadCode, BadDomain, BadRoom, BadValue, Full, NoCode, NoValue, Twice
from colonnade.relations import is_enough, kept_by
from colonnade.values import is_integer_from, is_value

MOST_ROOM = 1000000
MOST_CODE = 9999999


def check_room(room):
    """Refuse what is no room of a book."""
    if not is_integer_from(room, 1, MOST_ROOM):
        raise BadRoom(room)


def _check_entries(domain, entries):
    values = {}
    codes = {}
    for value, code in entries:
        if not is_value(domain, value):
            raise BadValue(value)
        if not is_integer_from(code, 0, MOST_CODE):
            raise BadCode(code)
        if value in values or code in codes:
            raise Twice(value)
        values[value] = True
        codes[code] = True


def _check_placed(placed):
    for one, other in zip(placed, placed[1:]):
        if other[1] <= one[1]:
            raise BadBook(other[0])


def _placed_entries(entries, room):
    return [(value, code) for value, code in entries if code < room]


def _newcomer_code(book, value):
    sought = book.entries
    if not is_enough(book.keeps, "order"):
        sought = _placed_entries(book.entries, book.room)
    below = [code for known, code in sought if known < value]
    above = [code for known, code in sought if known > value]
    low = below[-1] if below else -1
    high = above[0] if above else book.room
    if high - low >= 2:
        return low + (high - low) // 2
    return max([book.room] + [code + 1 for known, code in book.entries])


class Book:
    """Codes for at most 120 values of one domain, which is never changed."""

    MOST = 120

    def __init__(self, domain, room, entries=()):
        if domain not in ("number", "word"):
            raise BadDomain(domain)
        check_room(room)
        _check_entries(domain, entries)
        if len(entries) > Book.MOST:
            raise Full(entries[Book.MOST][0])
        ascending = sorted(entries)
        _check_placed(_placed_entries(ascending, room))
        self.domain = domain
        self.room = room
        self.entries = tuple(ascending)
        self._codes = {value: code for value, code in ascending}
        self._values = {code: value for value, code in ascending}

    @classmethod
    def counted(cls, low, high, room):
        """Return the book of the numbers from low to high with the codes 0, 1 and so on."""
        return cls("number", room, [(number, number - low) for number in range(low, high + 1)])

    @property
    def keeps(self):
        """What the entries keep at most."""
        return kept_by(self.entries)

    @property
    def strays(self):
        """The values whose codes are not less than the room, ascending."""
        return tuple([value for value, code in self.entries if code >= self.room])

    @property
    def placed(self):
        """The codes that are less than the room, ascending."""
        return tuple([code for value, code in self.entries if code < self.room])

    def code_of(self, value):
        """Return the code of a value."""
        if value not in self:
            raise NoValue(value)
        return self._codes[value]

    def value_of(self, code):
        """Return the value of a code."""
        if not is_integer_from(code, 0, MOST_CODE) or code not in self._values:
            raise NoCode(code)
        return self._values[code]

    def __contains__(self, value):
        # True and False are found among the keys of a dict like 1 and 0.
        return is_value(self.domain, value) and value in self._codes

    def bound(self, value):
        """Return the code of the least value of the book that is not less, or None."""
        if not is_value(self.domain, value):
            raise BadValue(value)
        for known, code in self.entries:
            if known >= value:
                return code
        return None

    def __add__(self, value):
        if not is_value(self.domain, value):
            raise BadValue(value)
        if value in self._codes:
            return Book(self.domain, self.room, self.entries)
        code = _newcomer_code(self, value)
        if len(self.entries) >= Book.MOST or code > MOST_CODE:
            raise Full(value)
        return Book(self.domain, self.room, self.entries + ((value, code),))

    def base(self):
        """Return the value minus the code of the least entry; 0 without entries or of words."""
        if self.domain == "word" or not self.entries:
            return 0
        value, code = self.entries[0]
        return value - code
