"""Parts of a store as they are written to files: columns, toggles and books.

A part is named as its file is, without the edition.
"""

from colonnade.books import Book
from colonnade.chains import Chain
from colonnade.coded import Block, CodedColumn
from colonnade.stores import Store
from colonnade.stretches import Stretches


def column_part(table, column):
    """Return the name of the part of a column."""
    return f"{table}.{column}"


def toggles_part(table):
    """Return the name of the part of the toggles of a table."""
    return f"{table}.*"


def book_part(book):
    """Return the name of the part of a book."""
    return f"*.{book}"


def part_of(name):
    """Return the name of the part that a file holds."""
    return name.rpartition(".")[0]


def edition_of(name):
    """Return the edition that a file holds."""
    return int(name.rpartition(".")[2])


def _column_cells(store, table, column):
    cells = ["column"]
    for block in store.blocks[table]:
        coded = block.column_named(column)
        cells.extend([coded.many, coded.chain, len(coded.cells), *coded.cells])
    return cells


def _toggles_cells(store, table):
    cells = ["toggles"]
    for moment, places in store.toggled[table]:
        cells.extend([moment, len(places.pairs)])
        for start, end in places.pairs:
            cells.extend([start, end])
    return cells


def entries_cells(entries):
    """Return the cells of entries of a book."""
    return [cell for entry in entries for cell in entry]


def table_cells(store):
    """Return the dict from the parts of all tables, in the order in which they are written, to their cells."""
    cells = {}
    for table in store.shapes.tables:
        for column in store.shapes.columns_of(table):
            cells[column_part(table, column)] = _column_cells(store, table, column)
        cells[toggles_part(table)] = _toggles_cells(store, table)
    return cells


def book_cells(store):
    """Return the dict from the parts of all books, ascending, to their cells."""
    cells = {}
    for name in store.shapes.books:
        book = store.book_named(name)
        cells[book_part(name)] = ["book", book.room] + entries_cells(book.entries)
    return cells


def store_cells(store):
    """Return the dict from all parts, in the order in which they are written, to their cells."""
    return {**table_cells(store), **book_cells(store)}


def _read_columns(cells):
    """Return the list of the coded columns, one for each block."""
    columns = []
    at = 1
    while at < len(cells):
        many, chain, length = cells[at:at + 3]
        end = at + 3 + length
        columns.append(CodedColumn(chain, Chain(chain).read(cells[at + 3:end], many)))
        at = end
    return columns


def _read_toggles(cells):
    toggles = []
    at = 1
    while at < len(cells):
        moment, many = cells[at:at + 2]
        end = at + 2 + 2 * many
        told = cells[at + 2:end]
        toggles.append((moment, Stretches(list(zip(told[::2], told[1::2])))))
        at = end
    return tuple(toggles)


def _read_blocks(shapes, table, cells):
    columns = {}
    for column in shapes.columns_of(table):
        columns[column] = _read_columns(cells[column_part(table, column)])
    many = max([len(own) for own in columns.values()])
    return tuple([Block({column: own[at] for column, own in columns.items()}) for at in range(many)])


def _read_book(domain, cells):
    return Book(domain, cells[1], list(zip(cells[2::2], cells[3::2])))


def read_store(shapes, cells, moment, kept):
    """Return the store with these cells of all its parts."""
    books = {name: _read_book(shapes.domain_of_book(name), cells[book_part(name)]) for name in shapes.books}
    store = Store(shapes, books)
    store.moment = moment
    store.kept = tuple(kept)
    store.blocks = {table: _read_blocks(shapes, table, cells) for table in shapes.tables}
    store.toggled = {table: _read_toggles(cells[toggles_part(table)]) for table in shapes.tables}
    return store
