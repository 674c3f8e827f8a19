"""Papers: what shows that answers and found records are right, and what becomes of it behind deeds."""

from colonnade.boxes import covers_by
from colonnade.errors import NoCarry, NoCode
from colonnade.patterns import columns_with_book, test_need
from colonnade.records import lacking_files, last_found, log_records
from colonnade.relations import is_enough
from colonnade.translating import on_codes


def _stays_closed(test, shapes, name, book):
    """Tell whether a book keeps what each leaf of a test needs of it."""
    return all([is_enough(book.keeps, test_need(leaf, shapes, name)) for leaf in test.leaves()])


class SureTest:
    """A test as it is judged on boxes of codes."""

    def __init__(self, test, shapes, books):
        self._columns = test.columns_used()
        self._valued = {}
        closed = {}
        for name in sorted(set([shapes.book_of(column) for column in self._columns])):
            if name:
                fate = closed if _stays_closed(test, shapes, name, books[name]) else self._valued
                for column in columns_with_book(test, shapes, name):
                    fate[column] = books[name]
        self._translated = on_codes(test, closed)

    def _bounds(self, column, low, high):
        """Return the bounds of what the test is asked of a column: those of its codes, or its value."""
        if column not in self._valued:
            return (low, high)
        value = self._valued[column].value_of(low)
        return (value, value)

    def verdict(self, box):
        """Return the sure verdict of the test on a box of codes."""
        if any([box[column][0] != box[column][1] for column in self._valued]):
            return "open"
        try:
            bounds = {column: self._bounds(column, box[column][0], box[column][1]) for column in self._columns}
        except NoCode:
            return "open"
        return self._translated.verdict(bounds)


class Judge:
    """Several tests as they are judged together on boxes of codes."""

    def __init__(self, tests, shapes, books):
        self._tests = [SureTest(test, shapes, books) for test in tests]

    def verdict(self, box):
        """Return the sure verdict of all tests together."""
        verdicts = [test.verdict(box) for test in self._tests]
        if "never" in verdicts:
            return "never"
        return "open" if "open" in verdicts else "always"

    def reason(self, box):
        """Return the sure verdict, or the empty string if it is open."""
        verdict = self.verdict(box)
        return "" if verdict == "open" else verdict


def sure_verdict(tests, box, shapes, books):
    """Return the sure verdict of a list of tests on a box of codes."""
    return Judge(tests, shapes, books).verdict(box)


def scan_columns(question, table):
    """Return the columns of the scan tests of a table, ascending."""
    columns = [column for test in question.scan_tests(table) for column in test.columns_used()]
    return sorted(set(columns))


def judge_for(question, scene, table):
    """Return the judge of the scan tests of a table on the codes of a scene."""
    books = {name: scene.book_named(name) for name in question.books_named()}
    return Judge(question.scan_tests(table), question.shapes, books)


def seen_codes(question, scene, table):
    """Return the list of the seen places, and the rows of what stands there in the columns of the scan tests."""
    coded = scene.table_named(table)
    places = list(coded.seen.each_place())
    numbers = {column: coded.numbers_of(column) for column in scan_columns(question, table)}
    return (places, [{column: own[place] for column, own in numbers.items()} for place in places])


def _table_paper(question, scene, table):
    """Return the fewest covers of a table."""
    places, rows = seen_codes(question, scene, table)
    judge = judge_for(question, scene, table)
    covers = covers_by(rows, lambda box: judge.reason(box))
    return tuple([(places[start], places[end - 1] + 1, reason, box) for start, end, reason, box in covers])


def answer_paper(question, scene):
    """Return the paper of the answer to a question on a scene."""
    return {table: _table_paper(question, scene, table) for table in question.tables}


def _boxes_of(paper):
    return [box for covers in paper.values() for start, end, reason, box in covers]


def paper_needs(paper, question):
    """Return a dict from the books of the boxes, ascending, to what the paper needs of their codes."""
    needs = {}
    for box in _boxes_of(paper):
        for column, (low, high) in box.items():
            book = question.shapes.book_of(column)
            if book and needs.get(book) != "order":
                needs[book] = "order" if low < high else "same"
    return {book: needs[book] for book in sorted(needs)}


def _carried_bounds(codes, low, high):
    """Return the bounds between new codes for those between old ones."""
    within = [old for old in codes if low <= old <= high]
    return (codes[min(within)], codes[max(within)]) if within else (low, high)


def _carried_box(box, shapes, carry):
    carried = {}
    for column, (low, high) in box.items():
        book = shapes.book_of(column)
        carried[column] = _carried_bounds(carry.codes[book], low, high) if book else (low, high)
    return carried


def _new_stretches(places, start, end):
    """Return the longest stretches of neighbouring new places whose old places are from start to end - 1."""
    stretches = []
    for place in sorted([new for new in places[start:end] if new is not None]):
        if stretches and stretches[-1][1] == place:
            stretches[-1] = (stretches[-1][0], place + 1)
        else:
            stretches.append((place, place + 1))
    return stretches


def _carried_covers(covers, table, shapes, carry):
    carried = {}
    for start, end, reason, box in covers:
        for new_start, new_end in _new_stretches(carry.places[table], start, end):
            carried[new_start] = (new_start, new_end, reason, _carried_box(box, shapes, carry))
    return tuple([carried[start] for start in sorted(carried)])


def carried_paper(paper, question, carry):
    """Return the paper as a deed with this carry leaves it."""
    for book, need in paper_needs(paper, question).items():
        if not is_enough(carry.keeps_codes(book), need):
            raise NoCarry(book)
    return {table: _carried_covers(covers, table, question.shapes, carry) for table, covers in paper.items()}


def found_paper(disk):
    """Return the paper for the last record that is found on a disk."""
    number = last_found(disk)
    return [lacking_files(disk, record)[0] for record in log_records(disk)[number + 1:]]
