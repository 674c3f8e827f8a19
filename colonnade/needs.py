"""What questions need of the codes of books, and of the order of rows."""

from colonnade.codedly import STAGES
from colonnade.errors import NoBook
from colonnade.patterns import test_need
from colonnade.relations import is_enough, strongest

GROUP_NEEDS = {"distinct": "same", "least": "order", "greatest": "order", "sum": "distance"}
ORDER_NEEDS = {"column": "order", "least": "order", "greatest": "order", "sum": "value"}


def _pairs_with(question, book, pairs):
    columns = question.columns_of_book(book)
    return [(what, column) for what, column in pairs if column in columns]


def _key_pairs(question):
    return [(what, column) for what, column, down in question.sorts]


def _test_steps(question, book, stage):
    return [(test, test_need(test, question.shapes, book)) for test in question.tests_at(stage)]


def _join_steps(question, book):
    columns = [column for pair in question.joins for column in pair]
    return [(column, "same") for column in columns if question.shapes.book_of(column) == book]


def _group_steps(question, book):
    if not question.grouped:
        return []
    pairs = list(question.tells) + _key_pairs(question)
    steps = [(pair, GROUP_NEEDS.get(pair[0], "none")) for pair in _pairs_with(question, book, pairs)]
    groups = [column for column in question.groups if question.shapes.book_of(column) == book]
    return [(("column", column), "same") for column in groups] + steps


def _order_steps(question, book):
    pairs = _pairs_with(question, book, _key_pairs(question))
    return [(pair, ORDER_NEEDS.get(pair[0], "none")) for pair in pairs]


def steps_at(question, book, stage):
    """Return the steps of a stage, in order, each with its need of the book.

    A step is a test, a joined column, or the pair (what, column) of a group column, item or key.
    """
    if stage in ("scan", "cross"):
        return _test_steps(question, book, stage)
    if stage == "join":
        return _join_steps(question, book)
    if stage == "group":
        return _group_steps(question, book)
    return _order_steps(question, book) if stage == "order" else []


def check_book(question, book):
    """Refuse a book that the question does not name."""
    if book not in question.books_named():
        raise NoBook(book)


class Needs:
    """What a question needs."""

    def __init__(self, question):
        self.question = question
        self._books = question.books_named()
        self._needs = {}
        for book in self._books:
            for stage in STAGES:
                needs = [need for step, need in steps_at(question, book, stage)]
                self._needs[(book, stage)] = strongest(*needs)

    def need_at(self, book, stage):
        """Return what the question needs of a book at a stage."""
        check_book(self.question, book)
        return self._needs[(book, stage)]

    def overall(self, book):
        """Return what the question needs of a book."""
        needs = [self.need_at(book, stage) for stage in STAGES]
        return strongest(*needs)

    def _latest_opening(self, book, kept):
        for stage in STAGES:
            if not is_enough(kept, self.need_at(book, stage)):
                return stage
        return "tell"

    def latest_openings(self, kept):
        """Return the latest openings for the told relations of the books."""
        return {book: self._latest_opening(book, kept[book]) for book in self._books}

    def in_time(self, openings, kept):
        """Tell whether openings are in time for the told relations of the books."""
        for book in self._books:
            for stage in STAGES[:STAGES.index(openings[book])]:
                if not is_enough(kept[book], self.need_at(book, stage)):
                    return False
        return True

    def all_enough(self, kept):
        """Tell whether the told relations are enough for all that the question needs."""
        return all([is_enough(kept[book], self.overall(book)) for book in self._books])

    @property
    def places_need(self):
        """What the question needs of the order of the rows."""
        question = self.question
        keys = _key_pairs(question)
        if all([pair in keys for pair in question.tells]):
            return "none"
        if question.grouped and all([("column", column) in keys for column in question.groups]):
            return "none"
        return "order"

    def lines(self):
        """Return a line for each book, with its needs at all stages."""
        lines = []
        for book in self._books:
            entries = [book] + [self.need_at(book, stage) for stage in STAGES]
            lines.append("".join([f"{entry:<10}" for entry in entries]).rstrip())
        return lines


def joint_needs(questions):
    """Return a dict from the books of the questions to their strongest needs."""
    found = {}
    for question in questions:
        needs = Needs(question)
        for book in question.books_named():
            found[book] = strongest(found.get(book, "none"), needs.overall(book))
    return {book: found[book] for book in sorted(found)}
