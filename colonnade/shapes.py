"""Shapes: the tables, their columns, and the books of these."""

from colonnade.errors import (
    BadDomain, BadName, BadShape, Mismatch, NeedsBook, NoBook, NoColumn, NoTable, Twice,
)
from colonnade.values import is_name

DOMAINS = ("number", "word")
MOST_TABLES = 4
MOST_COLUMNS = 6


class Shapes:
    """One to four tables with their columns, which are never changed."""

    def __init__(self, tables):
        if not 1 <= len(tables) <= MOST_TABLES:
            raise BadShape("")
        self._columns = {}
        self._places = {}
        self._book_domains = {}
        for table, columns in tables:
            self._add_table(table, columns)
        self.tables = tuple(self._columns)
        self.books = tuple(sorted(self._book_domains))

    def _add_table(self, table, columns):
        if not is_name(table):
            raise BadName(table)
        if table in self._columns:
            raise Twice(table)
        if not 1 <= len(columns) <= MOST_COLUMNS:
            raise BadShape(table)
        for column, domain, book in columns:
            self._check_column(column, domain, book)
            self._places[column] = (table, domain, book)
            if book:
                self._book_domains[book] = domain
        self._columns[table] = tuple([column for column, domain, book in columns])

    def _check_column(self, column, domain, book):
        if not is_name(column):
            raise BadName(column)
        if column in self._places:
            raise Twice(column)
        if domain not in DOMAINS:
            raise BadDomain(domain)
        if book != "" and not is_name(book):
            raise BadName(book)
        if domain == "word" and book == "":
            raise NeedsBook(column)
        earlier = self._book_domains.get(book, domain)
        if earlier != domain:
            raise Mismatch(domain, earlier)

    def columns_of(self, table):
        """Return the columns of a table, in order."""
        if table not in self._columns:
            raise NoTable(table)
        return self._columns[table]

    def _place_of(self, column):
        if column not in self._places:
            raise NoColumn(column)
        return self._places[column]

    def table_of(self, column):
        """Return the table of a column."""
        return self._place_of(column)[0]

    def domain_of_column(self, column):
        """Return the domain of a column."""
        return self._place_of(column)[1]

    def book_of(self, column):
        """Return the name of the book of a column, or the empty string."""
        return self._place_of(column)[2]

    def domain_of_book(self, book):
        """Return the domain of a book."""
        if book not in self._book_domains:
            raise NoBook(book)
        return self._book_domains[book]

    def columns_with(self, book):
        """Return the columns with a book, in the order of the tables and columns."""
        if book not in self._book_domains:
            raise NoBook(book)
        return tuple([column for column in self._places if self._places[column][2] == book])
