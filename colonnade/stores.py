"""Stores: tables that are kept in coded blocks, as of all moments that are kept."""

from colonnade.coded import CodedTable, Scene, books_with_newcomers, check_books, check_rows, coded_block
from colonnade.engine import work
from colonnade.errors import Mismatch, NoBook, NoTable, NotKept, NotSeen, TooMany
from colonnade.moments import seen_at
from colonnade.plans import Plan
from colonnade.rules import best_plan
from colonnade.stretches import Stretches
from colonnade.values import is_integer_from

GREATEST_MOMENT = 999
MOST_PLACES = 999


def _check_domains(shapes, books):
    for name in shapes.books:
        if books[name].domain != shapes.domain_of_book(name):
            raise Mismatch(books[name].domain, shapes.domain_of_book(name))


class Trial:
    """One `with` statement behind which a store is as it was before, if an error ends it."""

    def __init__(self, store):
        self.store = store
        self.moment = None
        self.kept = None
        self.books = None
        self.blocks = None
        self.toggled = None

    def __enter__(self):
        self.moment = self.store.moment
        self.kept = self.store.kept
        self.books = self.store.books
        self.blocks = self.store.blocks
        self.toggled = self.store.toggled
        return self.store

    def __exit__(self, kind, value, trace):
        store = self.store
        if kind is not None:
            store.moment = self.moment
            store.kept = self.kept
            store.books = self.books
            store.blocks = self.blocks
            store.toggled = self.toggled


class Store:
    """Tables of some shapes, with their books, at the present moment and at earlier ones.

    The dicts `books`, `blocks` (tuples of blocks by tables) and `toggled` (tuples of pairs of a
    moment and a Stretches by tables) are never changed, but replaced by new ones: a trial keeps
    the old ones.
    """

    def __init__(self, shapes, books):
        check_books(shapes, books)
        _check_domains(shapes, books)
        self.shapes = shapes
        self.moment = 0
        self.kept = (0,)
        self.books = {name: books[name] for name in shapes.books}
        self.blocks = {table: () for table in shapes.tables}
        self.toggled = {table: () for table in shapes.tables}

    def check_table(self, table):
        """Refuse what is no table."""
        if table not in self.blocks:
            raise NoTable(table)

    def many_places(self, table):
        """Return the number of places of a table, seen or not."""
        return sum([block.many for block in self.blocks[table]])

    def numbers_of(self, table, column):
        """Return the list of a column's numbers at all places of its table."""
        return [number for block in self.blocks[table] for number in block.column_named(column).numbers()]

    def _seen_now(self, table):
        return seen_at(self.toggled[table], self.moment)

    def _check_strikes(self, strikes):
        for table in self.shapes.tables:
            seen = self._seen_now(table)
            earlier = {}
            for place in strikes.get(table, []):
                if not is_integer_from(place, 0, MOST_PLACES) or place not in seen or place in earlier:
                    raise NotSeen(table, place)
                earlier[place] = True

    def _check_moment(self):
        if self.moment >= GREATEST_MOMENT:
            raise TooMany("moment")

    def _check_commit(self, puts, strikes):
        for table in [*puts, *strikes]:
            self.check_table(table)
        check_rows(self.shapes, puts)
        self._check_strikes(strikes)
        for table in self.shapes.tables:
            if self.many_places(table) + len(puts.get(table, [])) > MOST_PLACES:
                raise TooMany(table)
        self._check_moment()

    def _advance(self, toggles):
        """Begin a new moment, at which these places are toggled, Stretches by tables."""
        self.moment += 1
        self.kept = (*self.kept, self.moment)
        toggled = {}
        for table, places in toggles.items():
            new = ((self.moment, places),) if places.pairs else ()
            toggled[table] = self.toggled[table] + new
        self.toggled = toggled

    def commit(self, puts=None, strikes=None):
        """Put rows into tables, strike places, and return the new moment."""
        put = {} if puts is None else puts
        struck = {} if strikes is None else strikes
        self._check_commit(put, struck)
        books = books_with_newcomers(self.shapes, self.books, put)
        blocks = {}
        toggles = {}
        for table in self.shapes.tables:
            rows = put.get(table, [])
            many = self.many_places(table)
            blocks[table] = self.blocks[table]
            toggles[table] = Stretches.covering(struck.get(table, []))
            if rows:
                blocks[table] = (*self.blocks[table], coded_block(self.shapes, books, table, rows, {}))
                toggles[table] = toggles[table] | Stretches([(many, many + len(rows))])
        self.books = books
        self.blocks = blocks
        self._advance(toggles)
        return self.moment

    def restore(self, moment):
        """Toggle what makes the places seen as at a kept moment, and return the new moment."""
        self._check_kept(moment)
        self._check_moment()
        self._advance({
            table: self._seen_now(table) ^ seen_at(toggles, moment) for table, toggles in self.toggled.items()
        })
        return self.moment

    def _check_kept(self, moment):
        if not is_integer_from(moment, 0, GREATEST_MOMENT) or moment not in self.kept:
            raise NotKept(moment)

    def _kept_or_now(self, moment):
        if moment is None:
            return self.moment
        self._check_kept(moment)
        return moment

    def scene_at(self, moment=None):
        """Return the scene as of a moment, or as of now."""
        at = self._kept_or_now(moment)
        tables = {
            table: CodedTable(table, blocks, seen_at(self.toggled[table], at)) for table, blocks in self.blocks.items()
        }
        return Scene(self.shapes, self.books, tables)

    def rows_of(self, table, moment=None):
        """Return the list of the seen rows of a table, tuples of values."""
        self.check_table(table)
        return self.scene_at(moment).rows_of(table)

    def places_of(self, table, moment=None):
        """Return the seen places of a table."""
        self.check_table(table)
        return seen_at(self.toggled[table], self._kept_or_now(moment))

    def layout(self, table):
        """Return for each block the dict from the columns to the chain and the cells."""
        self.check_table(table)
        columns = self.shapes.columns_of(table)
        found = []
        for block in self.blocks[table]:
            coded = {column: block.column_named(column) for column in columns}
            found.append({column: (own.chain, list(own.cells)) for column, own in coded.items()})
        return found

    def sizes(self, table):
        """Return the list of the numbers of rows of the blocks."""
        self.check_table(table)
        return [block.many for block in self.blocks[table]]

    def toggles(self, table):
        """Return the list of the moments at which places are toggled, with the stretches of these."""
        self.check_table(table)
        return [(moment, places.pairs) for moment, places in self.toggled[table]]

    def book_named(self, name):
        """Return the book with this name."""
        if name not in self.books:
            raise NoBook(name)
        return self.books[name]

    def weights(self, book):
        """Return the dict from the values of a book, ascending, to how often their codes stand."""
        entries = self.book_named(book).entries
        counts = {}
        for column in self.shapes.columns_with(book):
            for code in self.numbers_of(self.shapes.table_of(column), column):
                counts[code] = counts.get(code, 0) + 1
        return {value: counts.get(code, 0) for value, code in entries}

    def plan_for(self, question):
        """Return the best plan of a question for what the books keep now."""
        return best_plan(question, {name: book.keeps for name, book in self.books.items()})

    def ask(self, question, *, size=8):
        """Return the answer to a question, as of its moment or as of now."""
        scene = self.scene_at(question.moment)
        best = self.plan_for(question)
        return work(Plan(best.question, best.openings, passing=best.passing, size=size), scene).rows

    def trial(self):
        """Return an object for one `with` statement that takes everything back if an error ends it."""
        return Trial(self)
