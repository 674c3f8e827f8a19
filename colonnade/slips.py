"""Slips: small cases in which a step goes wrong, as a book keeps less than the step needs."""

from colonnade.books import Book
from colonnade.codedly import stage_after
from colonnade.errors import NoSlip, TooHeavy
from colonnade.needs import check_book, steps_at
from colonnade.patterns import MOST_WEIGHT, columns_with_book, find_clash, test_weight, values_with_book
from colonnade.questions import Question
from colonnade.relations import is_enough
from colonnade.shapes import Shapes
from colonnade.translating import on_codes
from colonnade.values import is_name, near_values, next_value

VALUES = {"number": (1, 3, 7), "word": ("a", "c", "g")}
# Codes of the first of these values. With a room of 1 they may stand in any way.
CODES = {"same": (5, 4), "order": (4, 5)}
# Here the sums of the first two values are brought back rightly, whatever the whole book keeps.
SUM_CODES = {"same": (11, 13, 2), "order": (11, 13, 20), "distance": (11, 13)}


class Slip:
    """A question on few rows whose coded answer is not its plain answer."""

    def __init__(self, question, books, rows, openings, book):
        self.question = question
        self.books = books
        self.rows = rows
        self.openings = openings
        self.book = book


def _free_name(taken):
    """Return a name that is not taken."""
    name = "a"
    while name in taken or not is_name(name):
        name = next_value(name)
    return name


def _item_book(domain, what, stage, kept):
    """Return a book that keeps at most the relation."""
    codes = SUM_CODES[kept] if what == "sum" and stage == "order" else CODES[kept]
    return Book(domain, 1, list(zip(VALUES[domain], codes)))


def _item_slip(question, pair, stage, kept):
    """Return a slip for an item or a key."""
    what, column = pair
    shapes = question.shapes
    table = shapes.table_of(column)
    book = shapes.book_of(column)
    domain = shapes.domain_of_column(column)
    low = VALUES[domain][0]
    high = VALUES[domain][1]
    group = _free_name([column])
    own_shapes = Shapes([(table, [(group, "number", ""), (column, domain, book)])])
    rows = [(1, low), (2, high)]
    groups, tells, sorts = [], [pair], []
    if stage == "order":
        sorts = [(what, column, False)]
        if what != "column":
            groups, tells = [group], [("column", group)]
        if what == "sum":
            # One great value against two small ones, whose sum is less, but not that of their codes.
            rows = [(1, high), (2, low), (2, low)]
    asked = Question(own_shapes, [table], [], [], groups, tells, sorts, None, None)
    books = {book: _item_book(domain, what, stage, kept)}
    return Slip(asked, books, {table: rows}, {book: stage_after(stage)}, book)


def _realized(test, shapes, book, pattern):
    """Return the values of the items of a book whose equal ones are those of the pattern."""
    columns = columns_with_book(test, shapes, book)
    values = values_with_book(test, shapes, book)
    near = near_values(shapes.domain_of_book(book), values, len(columns))
    spare = [value for value in near if value not in values]
    found = dict(zip(pattern[len(columns):], values))
    for entry in pattern:
        if entry not in found:
            found[entry] = spare.pop()
    return [found[entry] for entry in pattern]


def _clash_book(shapes, book, values, pattern):
    """Return a book in which the codes of the values stand as the pattern says."""
    codes = {value: entry + 1 for value, entry in zip(values, pattern)}
    return Book(shapes.domain_of_book(book), 1, list(codes.items()))


def _other_book(test, shapes, book, row):
    """Return a book with the values of a row and their neighbours that keeps order, and no more."""
    values = [row[column] for column in columns_with_book(test, shapes, book)]
    near = near_values(shapes.domain_of_book(book), values, 1)
    return Book(shapes.domain_of_book(book), 2 * len(near), [(value, 2 * rank) for rank, value in enumerate(near)])


def _is_wrong(test, shapes, book, row, codes):
    """Tell whether a row has another truth on the codes of its book than on values."""
    columns = columns_with_book(test, shapes, book)
    coded = {column: codes.code_of(row[column]) if column in columns else row[column] for column in row}
    return on_codes(test, {column: codes for column in columns}).holds(coded) != test.holds(row)


def _test_case(test, shapes, book):
    """Return a row of the columns of a test, and a dict of books with which it goes wrong."""
    others, one, other = find_clash(test, shapes, book)
    values = _realized(test, shapes, book, one)
    row = {**others, **dict(zip(columns_with_book(test, shapes, book), values))}
    # The two patterns give different truths: one of them is not that of the row.
    codes = _clash_book(shapes, book, values, one)
    if not _is_wrong(test, shapes, book, row, codes):
        codes = _clash_book(shapes, book, values, other)
    books = {}
    for column in test.columns_used():
        name = shapes.book_of(column)
        if name not in ("", book):
            books[name] = _other_book(test, shapes, name, row)
    return (row, {**books, book: codes})


def _test_tables(question, test):
    """Return the tables of a test, in order, each with those of its columns that the test has."""
    shapes = question.shapes
    tables = []
    for table in question.tables:
        columns = [column for column in test.columns_used() if shapes.table_of(column) == table]
        if columns:
            own = [(column, shapes.domain_of_column(column), shapes.book_of(column)) for column in columns]
            tables.append((table, own))
    return tables


def _with_join_columns(tables, taken):
    """Return the tables, each with a first column more, if there are several of them."""
    if len(tables) == 1:
        return tables
    names = list(taken)
    joined = []
    for table, own in tables:
        names.append(_free_name(names))
        joined.append((table, [(names[-1], "number", ""), *own]))
    return joined


def _test_slip(question, test, stage, book):
    """Return a slip for a test, with one row in each of its tables."""
    row, books = _test_case(test, question.shapes, book)
    tables = _with_join_columns(_test_tables(question, test), test.columns_used())
    rows = {table: [tuple([row.get(told[0], 0) for told in own])] for table, own in tables}
    names = [table for table, own in tables]
    joins = [(tables[0][1][0][0], own[0][0]) for table, own in tables[1:]]
    asked = Question(Shapes(tables), names, joins, [test], [], [("count", "")], [], None, None)
    openings = {name: stage_after(stage) if name == book else "tell" for name in asked.books_named()}
    return Slip(asked, books, rows, openings, book)


def slip_for(question, book, stage, kept):
    """Return a slip for the first step at a stage that needs more of a book than the relation."""
    check_book(question, book)
    steps = [step for step, need in steps_at(question, book, stage) if not is_enough(kept, need)]
    if not steps:
        raise NoSlip(book, stage)
    if stage not in ("scan", "cross"):
        return _item_slip(question, steps[0], stage, kept)
    weight = test_weight(steps[0], question.shapes)
    if weight > MOST_WEIGHT:
        raise TooHeavy(weight)
    return _test_slip(question, steps[0], stage, book)
