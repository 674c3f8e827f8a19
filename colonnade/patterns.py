"""Order patterns, and what a test needs of the codes of a book."""

from colonnade.errors import TooHeavy
from colonnade.filters import Compare, Pair, Within
from colonnade.questions import constants_of
from colonnade.translating import rebuilt
from colonnade.values import GREATEST_NUMBER, LEAST_NUMBER, near_values

EXTREMES = (LEAST_NUMBER, GREATEST_NUMBER, "a", "zzzzzzzz")
ORDER_SIGNS = ("<", "<=", ">", ">=")
MOST_WEIGHT = 5
MOST_TOLD = 8


def _may_begin(front, many, apart):
    """Tell whether an order pattern of so many items may begin with these entries."""
    last = len(front) - 1
    if last in apart and front[last] in [front[at] for at in apart if at < last]:
        return False
    # Each entry that is left out so far must still come.
    left_out = max(front) + 1 - len(set(front))
    return left_out <= many - len(front)


def _patterns(many, apart):
    fronts = [()]
    for _ in range(many):
        longer = [(*front, entry) for front in fronts for entry in range(many)]
        fronts = [front for front in longer if _may_begin(front, many, apart)]
    return fronts


def order_patterns(many, apart=()):
    """Yield the order patterns of so many items, ascending; the entries at `apart` differ."""
    yield from _patterns(many, apart)


def _books_of(test, shapes):
    """Return the books of the columns of a test, ascending, with the empty string for none."""
    return sorted(set([shapes.book_of(column) for column in test.columns_used()]))


def columns_with_book(test, shapes, book):
    """Return the columns of a test with this book, or without one for the empty string."""
    return [column for column in test.columns_used() if shapes.book_of(column) == book]


def values_with_book(test, shapes, book):
    """Return the different values with which columns with this book are compared, ascending."""
    leaves = [leaf for leaf in test.leaves() if shapes.book_of(leaf.column) == book]
    return sorted(set([value for leaf in leaves for value in constants_of(leaf)]))


def test_weight(test, shapes):
    """Return the weight of a test."""
    weight = len(test.columns_used())
    for book in _books_of(test, shapes):
        for value in values_with_book(test, shapes, book):
            weight += 2 if value in EXTREMES else 1
    return weight


def _check_weight(test, shapes):
    weight = test_weight(test, shapes)
    if weight > MOST_WEIGHT:
        raise TooHeavy(weight)


def rows_of_near_values(test, shapes, books):
    """Return rows of the columns with these books that stand for all rows of values."""
    rows = [{}]
    for book in books:
        columns = columns_with_book(test, shapes, book)
        domain = shapes.domain_of_column(columns[0])
        entries = near_values(domain, values_with_book(test, shapes, book), len(columns))
        for column in columns:
            rows = [{**row, column: entry} for row in rows for entry in entries]
    return rows


def _leaf_with(leaf, book_columns, entries):
    if isinstance(leaf, Pair) or leaf.column not in book_columns:
        return leaf
    if isinstance(leaf, Compare):
        return Compare(leaf.column, leaf.sign, entries[leaf.value])
    return Within(leaf.column, [entries[choice] for choice in leaf.choices])


def _with_entries(test, book_columns, entries):
    """Return the test with entries for the values with which these columns are compared."""
    return rebuilt(test, lambda leaf: _leaf_with(leaf, book_columns, entries))


def _sameness(pattern):
    """Return a tuple that is equal for patterns with equal entries at the same pairs of items."""
    return tuple([pattern.index(entry) for entry in pattern])


def find_clash(test, shapes, book):
    """Return what shows that a test needs "order" of a book, or None if it does not.

    This is a triple of a row of the other columns and two order patterns of the items of the book
    that are equal at the same pairs of items, but give the test different truths.
    """
    columns = columns_with_book(test, shapes, book)
    values = values_with_book(test, shapes, book)
    many = len(columns) + len(values)
    apart = list(range(len(columns), many))
    cases = []
    for pattern in order_patterns(many, apart):
        entries = dict(zip(values, pattern[len(columns):]))
        cases.append((pattern, _sameness(pattern), _with_entries(test, columns, entries)))
    others = [other for other in _books_of(test, shapes) if other != book]
    for row in rows_of_near_values(test, shapes, others):
        told = {}
        for pattern, sameness, coded in cases:
            truth = coded.holds({**row, **dict(zip(columns, pattern))})
            earlier, earlier_truth = told.setdefault(sameness, (pattern, truth))
            if truth != earlier_truth:
                return (row, earlier, pattern)
    return None


def _compares_order(leaf, shapes, book):
    return not isinstance(leaf, Within) and leaf.sign in ORDER_SIGNS and shapes.book_of(leaf.column) == book


def test_need(test, shapes, book):
    """Return the need of a test of a book."""
    if not columns_with_book(test, shapes, book):
        return "none"
    if test_weight(test, shapes) <= MOST_WEIGHT:
        return "same" if find_clash(test, shapes, book) is None else "order"
    return "order" if any([_compares_order(leaf, shapes, book) for leaf in test.leaves()]) else "same"


def holds_always(test, shapes):
    """Tell whether a test holds for all values of its columns."""
    _check_weight(test, shapes)
    rows = rows_of_near_values(test, shapes, _books_of(test, shapes))
    return all([test.holds(row) for row in rows])


def numbers_told(test, shapes):
    """Return the list of the 1 to 8 numbers for which a test of one column holds, or None."""
    _check_weight(test, shapes)
    columns = test.columns_used()
    if len(columns) != 1 or shapes.domain_of_column(columns[0]) != "number":
        return None
    # Where the test holds for more than 8 numbers in a gap between values, so it does near a value.
    values = values_with_book(test, shapes, shapes.book_of(columns[0]))
    near = near_values("number", values, MOST_TOLD + 1)
    told = [number for number in near if test.holds({columns[0]: number})]
    return told if 1 <= len(told) <= MOST_TOLD else None
