"""Coded tables: columns of codes in blocks, and scenes made of them."""

from colonnade.chains import Chain
from colonnade.errors import BadRow, NoBook, NoColumn, NoTable, Unfit
from colonnade.stretches import Stretches
from colonnade.values import is_value


class CodedColumn:
    """A list of numbers, written with a chain; it is never changed."""

    def __init__(self, chain, numbers):
        self.chain = chain
        self.cells = tuple(Chain(chain).write(numbers))
        self.many = len(numbers)
        self.least = min(numbers)
        self.greatest = max(numbers)

    def numbers(self):
        """Return the list of the numbers, read from the cells."""
        return Chain(self.chain).read(list(self.cells), self.many)


def fitting_column(chain, numbers):
    """Return the numbers written with the chain, or plainly if it does not fit them."""
    try:
        return CodedColumn(chain, numbers)
    except Unfit:
        return CodedColumn("plain", numbers)


class Block:
    """Columns of equal length; it is never changed."""

    def __init__(self, columns):
        self._columns = dict(columns)
        self.many = max([column.many for column in columns.values()])

    @property
    def names(self):
        """The names of the columns, ascending."""
        return tuple(sorted(self._columns))

    def column_named(self, name):
        """Return the coded column with this name."""
        if name not in self._columns:
            raise NoColumn(name)
        return self._columns[name]

    def bounds(self, columns):
        """Return the box of the least and the greatest numbers of the columns."""
        found = [(name, self.column_named(name)) for name in columns]
        return {name: (column.least, column.greatest) for name, column in found}


class CodedTable:
    """Blocks with all columns of a table, and the places that are seen; it is never changed."""

    def __init__(self, name, blocks, seen):
        self.name = name
        self.blocks = tuple(blocks)
        self.seen = seen
        self.many = sum([block.many for block in blocks])

    def numbers_of(self, column):
        """Return the list of a column's numbers in the order of the places."""
        return [number for block in self.blocks for number in block.column_named(column).numbers()]


class Scene:
    """Shapes with a book for each of their books and a coded table for each of their tables."""

    def __init__(self, shapes, books, tables):
        self.shapes = shapes
        self._books = {name: books[name] for name in shapes.books}
        self._tables = {name: tables[name] for name in shapes.tables}

    def book_named(self, name):
        """Return the book with this name."""
        if name not in self._books:
            raise NoBook(name)
        return self._books[name]

    def table_named(self, name):
        """Return the coded table with this name."""
        if name not in self._tables:
            raise NoTable(name)
        return self._tables[name]

    def relations(self):
        """Return a dict from all books, ascending, to what they keep at most."""
        return {name: book.keeps for name, book in self._books.items()}

    def _values_of(self, table, column):
        numbers = self.table_named(table).numbers_of(column)
        name = self.shapes.book_of(column)
        return [self._books[name].value_of(number) for number in numbers] if name else numbers

    def rows_of(self, table):
        """Return the list of the seen rows of a table, tuples of values."""
        seen = self.table_named(table).seen
        columns = [self._values_of(table, column) for column in self.shapes.columns_of(table)]
        return [tuple([values[place] for values in columns]) for place in seen.each_place()]

    def all_rows(self):
        """Return the dict from all tables, in order, to the lists of their seen rows."""
        return {table: self.rows_of(table) for table in self.shapes.tables}


def check_books(shapes, books):
    """Refuse books of which one that the shapes have is missing."""
    for name in shapes.books:
        if name not in books:
            raise NoBook(name)


def _suits(shapes, columns, row):
    if len(row) != len(columns):
        return False
    return all([is_value(shapes.domain_of_column(column), value) for column, value in zip(columns, row)])


def check_rows(shapes, rows):
    """Refuse a row that has not one value of the right domain for each column of its table."""
    for table in shapes.tables:
        for at, row in enumerate(rows.get(table, [])):
            if not _suits(shapes, shapes.columns_of(table), row):
                raise BadRow(table, at)


def books_with_newcomers(shapes, books, rows):
    """Return a dict of the books of the shapes, with all values of the rows of all tables."""
    grown = {name: books[name] for name in shapes.books}
    for table in shapes.tables:
        names = [shapes.book_of(column) for column in shapes.columns_of(table)]
        for row in rows.get(table, []):
            for name, value in zip(names, row):
                if name and value not in grown[name]:
                    grown[name] = grown[name] + value
    return grown


def coded_block(shapes, books, table, rows, chains):
    """Return the block of some rows of a table, written with the told chains where they fit."""
    columns = {}
    for at, column in enumerate(shapes.columns_of(table)):
        entries = [row[at] for row in rows]
        name = shapes.book_of(column)
        if name:
            entries = [books[name].code_of(entry) for entry in entries]
        columns[column] = fitting_column(chains.get(column, "plain"), entries)
    return Block(columns)


def make_scene(shapes, books, rows, *, size=4, chains=None, unseen=None):
    """Return a scene whose tables have these rows as places."""
    check_books(shapes, books)
    check_rows(shapes, rows)
    grown = books_with_newcomers(shapes, books, rows)
    told = {} if chains is None else chains
    hidden = {} if unseen is None else unseen
    tables = {}
    for table in shapes.tables:
        own = rows.get(table, [])
        parts = [own[start:start + size] for start in range(0, len(own), size)]
        blocks = [coded_block(shapes, grown, table, part, told) for part in parts]
        seen = Stretches.covering(hidden.get(table, [])).rest(len(own))
        tables[table] = CodedTable(table, blocks, seen)
    return Scene(shapes, grown, tables)
