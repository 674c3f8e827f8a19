"""Questions: what is asked of the tables, checked, and its written form."""

from colonnade.errors import BadConstant, BadItem, Mismatch, NoColumn, NoTable, Twice
from colonnade.filters import Pair, Within, every_of, parts_of
from colonnade.values import is_value


def constants_of(leaf):
    """Return the list of the values with which a leaf compares its column."""
    if isinstance(leaf, Pair):
        return []
    return list(leaf.choices) if isinstance(leaf, Within) else [leaf.value]


def written_item(what, column):
    """Return an item as it stands in the written form."""
    if what == "column":
        return column
    return what if what == "count" else f"{what} {column}"


def _written_key(what, column, down):
    item = written_item(what, column)
    return f"{item} down" if down else item


def _written_form(question):
    words = [f"from {question.tables[0]}"]
    for table, (first, second) in zip(question.tables[1:], question.joins):
        words.append(f"join {table} on {first} = {second}")
    if question.tests:
        words.append(f"where {every_of(question.tests).text}")
    if question.groups:
        words.append("group " + ", ".join(question.groups))
    words.append("tell " + ", ".join([written_item(what, column) for what, column in question.tells]))
    if question.sorts:
        words.append("order " + ", ".join([_written_key(what, column, down) for what, column, down in question.sorts]))
    if question.most is not None:
        words.append(f"first {question.most}")
    if question.moment is not None:
        words.append(f"at {question.moment}")
    return " ".join(words)


def _check_tables(shapes, tables):
    for table in tables:
        if table not in shapes.tables:
            raise NoTable(table)
    for at, table in enumerate(tables):
        if table in tables[:at]:
            raise Twice(table)


def _check_column(shapes, tables, column):
    if not any([column in shapes.columns_of(table) for table in tables]):
        raise NoColumn(column)


def _check_joins(shapes, tables, joins):
    for at, (first, second) in enumerate(joins):
        _check_column(shapes, tables[:at + 1], first)
        _check_column(shapes, tables[at + 1:at + 2], second)
        if shapes.domain_of_column(first) != shapes.domain_of_column(second):
            raise Mismatch(first, second)


def _check_leaf(shapes, tables, leaf):
    _check_column(shapes, tables, leaf.column)
    domain = shapes.domain_of_column(leaf.column)
    if isinstance(leaf, Pair):
        _check_column(shapes, tables, leaf.other)
        same_book = shapes.book_of(leaf.column) == shapes.book_of(leaf.other)
        if not same_book or domain != shapes.domain_of_column(leaf.other):
            raise Mismatch(leaf.column, leaf.other)
    for value in constants_of(leaf):
        if not is_value(domain, value):
            raise BadConstant(leaf.column)


def _check_groups(shapes, tables, groups):
    for at, column in enumerate(groups):
        _check_column(shapes, tables, column)
        if column in groups[:at]:
            raise Twice(column)


def _check_item(question, what, column):
    if what != "count":
        _check_column(question.shapes, question.tables, column)
    if what == "sum" and question.shapes.domain_of_column(column) == "word":
        raise BadItem(what, column)
    # In a group only the group columns have a value of their own, and nothing else is told of them.
    if question.grouped and (what == "column") != (column in question.groups):
        raise BadItem(what, column)


def _check_key(question, what, column):
    _check_item(question, what, column)
    if not question.grouped and what != "column":
        raise BadItem(what, column)


class Question:
    """What is asked of the tables of some shapes; it is never changed."""

    def __init__(self, shapes, tables, joins, tests, groups, tells, sorts, most, moment):
        self.shapes = shapes
        self.tables = tuple(tables)
        self.joins = tuple([(first, second) for first, second in joins])
        self.tests = tuple([part for test in tests for part in parts_of(test)])
        self.groups = tuple(groups)
        self.tells = tuple([(what, column) for what, column in tells])
        self.sorts = tuple([(what, column, down) for what, column, down in sorts])
        self.most = most
        self.moment = moment
        self._check()
        self.text = _written_form(self)

    def _check(self):
        _check_tables(self.shapes, self.tables)
        _check_joins(self.shapes, self.tables, self.joins)
        for test in self.tests:
            for leaf in test.leaves():
                _check_leaf(self.shapes, self.tables, leaf)
        _check_groups(self.shapes, self.tables, self.groups)
        for what, column in self.tells:
            _check_item(self, what, column)
        for what, column, _ in self.sorts:
            _check_key(self, what, column)

    @property
    def grouped(self):
        """Whether it has group columns, or an item that is not a column."""
        return bool(self.groups) or any([what != "column" for what, column in self.tells])

    def __str__(self):
        return str(self.text)

    def columns_named(self):
        """Return all columns that it names anywhere, ascending."""
        columns = [column for pair in self.joins for column in pair]
        columns.extend([column for test in self.tests for column in test.columns_used()])
        columns.extend(self.groups)
        columns.extend([column for what, column in self.tells if what != "count"])
        columns.extend([column for what, column, down in self.sorts if what != "count"])
        return tuple(sorted(set(columns)))

    def books_named(self):
        """Return the books of the columns that it names, ascending."""
        books = [self.shapes.book_of(column) for column in self.columns_named()]
        return tuple(sorted(set([book for book in books if book])))

    def columns_of_book(self, book):
        """Return the columns with a book that it names, ascending."""
        return tuple([column for column in self.columns_named() if self.shapes.book_of(column) == book])

    def _is_scan_test(self, test):
        tables = [self.shapes.table_of(column) for column in test.columns_used()]
        return len(set(tables)) == 1

    def tests_at(self, stage):
        """Return the list of the tests of the stage "scan" or "cross", in order."""
        return [test for test in self.tests if self._is_scan_test(test) == (stage == "scan")]

    def scan_tests(self, table):
        """Return the list of the tests all of whose columns are of this table, in order."""
        tests = self.tests_at("scan")
        return [test for test in tests if self.shapes.table_of(test.columns_used()[0]) == table]

    def cross_tests(self):
        """Return the list of the tests whose columns are of several tables, in order."""
        return self.tests_at("cross")

    def with_tests(self, tests):
        """Return a question with these tests and otherwise the same."""
        return Question(
            self.shapes, self.tables, self.joins, tests, self.groups, self.tells, self.sorts, self.most, self.moment,
        )
