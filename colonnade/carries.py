"""Carries: what a deed does to places, codes and moments."""

from colonnade.errors import NoBook, NoCarry, NoCode, NoTable
from colonnade.relations import kept_by


def _book_at_tell(question, openings, what, column):
    """Return the book whose codes an item shows until the stage "tell", or the empty string."""
    if what in ("count", "distinct"):
        return ""
    book = question.shapes.book_of(column)
    return book if book and openings[book] == "tell" else ""


class Carry:
    """The new places, the new codes, and the moments that are kept behind a deed."""

    def __init__(self, places, codes, moments):
        self.places = {table: tuple(own) for table, own in places.items()}
        self.codes = {book: dict(own) for book, own in codes.items()}
        self.moments = tuple(moments)

    def _places_of(self, table):
        if table not in self.places:
            raise NoTable(table)
        return self.places[table]

    def _codes_of(self, book):
        if book not in self.codes:
            raise NoBook(book)
        return self.codes[book]

    def new_place(self, table, old):
        """Return the new place of an old place, or None."""
        return self._places_of(table)[old]

    def new_code(self, book, old):
        """Return the new code of an old code."""
        codes = self._codes_of(book)
        # True and False are found among the keys of a dict like 1 and 0.
        if isinstance(old, bool) or old not in codes:
            raise NoCode(old)
        return codes[old]

    def keeps_places(self, table):
        """Return what the places keep at most, without those that were left out."""
        return kept_by([(old, new) for old, new in enumerate(self._places_of(table)) if new is not None])

    def keeps_codes(self, book):
        """Return what the codes keep at most."""
        return kept_by(list(self._codes_of(book).items()))

    def __add__(self, other):
        places = {}
        for table, own in self.places.items():
            places[table] = [None if place is None else other.places[table][place] for place in own]
        codes = {}
        for book, own in self.codes.items():
            codes[book] = {old: other.codes[book][new] for old, new in own.items()}
        return Carry(places, codes, other.moments)

    def carried_rows(self, question, openings, rows):
        """Return the unopened answer with the new codes of the books that are opened at "tell"."""
        books = []
        for what, column in question.tells:
            book = _book_at_tell(question, openings, what, column)
            if book and what == "sum":
                raise NoCarry(book)
            books.append(book)
        return [self._carried_row(books, row) for row in rows]

    def _carried_row(self, books, row):
        return tuple([self.new_code(book, entry) if book else entry for book, entry in zip(books, row)])
