"""Plans worked out on scenes block by block, with what is read and looked up counted."""

from colonnade.codedly import (
    STAGES, books_closed_at, books_opened_at, joined_tables, opened_results, opened_rows,
)
from colonnade.results import answer_of, asked_pairs, ordered_results, results_of
from colonnade.stretches import Stretches
from colonnade.translating import on_codes


def vectors(rows, size):
    """Yield the list in pieces of so many entries, the last one being possibly shorter."""
    for start in range(0, len(rows), size):
        yield rows[start:start + size]


def _seen_blocks(coded):
    """Return for each block with seen rows its index, the block, and the indexes of these rows."""
    found = []
    start = 0
    for at, block in enumerate(coded.blocks):
        seen = coded.seen & Stretches([(start, start + block.many)])
        places = [place - start for place in seen.each_place()]
        if places:
            found.append((at, block, places))
        start += block.many
    return found


def _told_pairs(question):
    """Return the different pairs (what, column) of the items."""
    return list({pair: True for pair in question.tells})


def _looked_pairs(pairs):
    """Return those of the different pairs (what, column) whose entries a book can open."""
    return [pair for pair in pairs if pair[0] not in ("count", "distinct")]


def _held_rows(rows, tests):
    return [row for row in rows if all([test.holds(row) for test in tests])]


class Work:
    """One plan on one scene: what is opened when, and the counts so far."""

    def __init__(self, plan, scene):
        self.plan = plan
        self.question = plan.question
        self.scene = scene
        books = {name: scene.book_named(name) for name in self.question.books_named()}
        self.opened = {}
        self.closed = {}
        for stage in STAGES:
            self.opened[stage] = books_opened_at(self.question, books, plan.openings, stage)
            self.closed[stage] = books_closed_at(self.question, books, plan.openings, stage)
        self.cells_read = 0
        self.looks = {name: 0 for name in books}
        self.passed = []

    def named_columns(self, table):
        """Return the columns of a table that the question names, ascending."""
        return [name for name in self.question.columns_named() if self.question.shapes.table_of(name) == table]

    def translated_tests(self, table):
        """Return pairs of the columns of a scan test of a table and the test's translation."""
        # A leaf that is translated to Fixed loses its column, which is read for the test all the same.
        closed = self.closed["scan"]
        return [(test.columns_used(), on_codes(test, closed)) for test in self.question.scan_tests(table)]

    def passing_tests(self, table):
        """Return pairs of a scan test's columns and its translation, for passing blocks by."""
        if not self.plan.passing:
            return []
        opened = self.opened["scan"]
        return [
            (columns, test) for columns, test in self.translated_tests(table)
            if not any([column in opened for column in columns])
        ]

    def blocks_at_hand(self, table):
        """Return the blocks with seen rows that are not passed by, and note those that are."""
        tests = self.passing_tests(table)
        found = []
        for at, block, places in _seen_blocks(self.scene.table_named(table)):
            verdicts = [test.verdict(block.bounds(columns)) for columns, test in tests]
            if "never" in verdicts:
                self.passed.append((table, at))
            else:
                found.append((block, places))
        return found

    def look(self, columns, many):
        """Count so many looks for each of the columns."""
        for column in columns:
            self.looks[self.question.shapes.book_of(column)] += many

    def look_at_pairs(self, pairs, stage, many):
        """Count so many looks for each pair whose column is opened at the stage."""
        self.look([column for what, column in _looked_pairs(pairs) if column in self.opened[stage]], many)

    def _read(self, block, columns, alive):
        """Return the alive rows, pairs of an index and a dict, with the entries of more columns."""
        for column in columns:
            coded = block.column_named(column)
            self.cells_read += len(coded.cells)
            entries = coded.numbers()
            if column in self.opened["scan"]:
                self.look([column], len(alive))
                book = self.opened["scan"][column]
                alive = [(at, {**row, column: book.value_of(entries[at])}) for at, row in alive]
            else:
                alive = [(at, {**row, column: entries[at]}) for at, row in alive]
        return alive

    def _kept_of_block(self, block, places, tests, columns):
        unread = list(columns)
        alive = [(place, {}) for place in places]
        for test_columns, test in tests:
            wanted = [column for column in test_columns if column in unread]
            alive = [(at, row) for at, row in self._read(block, wanted, alive) if test.holds(row)]
            if not alive:
                return []
            unread = [column for column in unread if column not in wanted]
        return [row for at, row in self._read(block, unread, alive)]

    def kept_rows(self, table):
        """Return the rows of a table for which its scan tests hold, as they come to the join."""
        columns = self.named_columns(table)
        tests = self.translated_tests(table)
        kept = []
        for block, places in self.blocks_at_hand(table):
            kept.extend(self._kept_of_block(block, places, tests, columns))
        opened = self.opened["join"]
        self.look([column for column in columns if column in opened], len(kept))
        return self._in_vectors(kept, lambda piece: opened_rows(piece, opened))

    def _in_vectors(self, rows, change):
        """Return what a function makes of the rows, which it is given in vectors."""
        found = []
        for piece in vectors(rows, self.plan.size):
            found.extend(change(piece))
        return found

    def chosen_rows(self):
        """Return the joined rows for which the cross tests hold, as they come to the group."""
        tables = {table: self.kept_rows(table) for table in self.question.tables}
        joined = joined_tables(self.question, tables, self.closed["join"])
        crossed = self.opened["cross"]
        self.look(crossed, len(joined))
        tests = [on_codes(test, self.closed["cross"]) for test in self.question.cross_tests()]
        chosen = self._in_vectors(joined, lambda piece: _held_rows(opened_rows(piece, crossed), tests))
        grouped = self.opened["group"]
        self.look(grouped, len(chosen))
        return self._in_vectors(chosen, lambda piece: opened_rows(piece, grouped))

    def _opened_results(self, results, stage):
        opened = self.opened[stage]
        return self._in_vectors(results, lambda piece: opened_results(piece, opened))

    def ordered(self):
        """Return the results as they stand behind the stage "order"."""
        results = results_of(self.question, self.chosen_rows())
        self.look_at_pairs(asked_pairs(self.question), "order", len(results))
        return ordered_results(self.question, self._opened_results(results, "order"))

    def answer(self):
        """Return the answer."""
        results = self.ordered()
        self.look_at_pairs(_told_pairs(self.question), "tell", len(results))
        return answer_of(self.question, self._opened_results(results, "tell"))


class Outcome:
    """The answer of a plan on a scene, and the work that it took."""

    def __init__(self, rows, cells_read, looks, passed):
        self.rows = rows
        self.cells_read = cells_read
        self.looks = looks
        self.passed = passed


def work(plan, scene):
    """Work a plan out on a scene."""
    done = Work(plan, scene)
    rows = done.answer()
    return Outcome(rows, done.cells_read, done.looks, done.passed)


def unopened_rows(plan, scene):
    """Return the answer of a plan just before the books are opened that are opened last."""
    return answer_of(plan.question, Work(plan, scene).ordered())


def at_most(plan, scene):
    """Return the bounds of the cells read and of the looks, found without reading a cell."""
    bound = Work(plan, scene)
    question = plan.question
    joined = 1
    for table in question.tables:
        columns = bound.named_columns(table)
        at_hand = bound.blocks_at_hand(table)
        rows = sum([len(places) for block, places in at_hand])
        for column in columns:
            bound.cells_read += sum([len(block.column_named(column).cells) for block, places in at_hand])
        for stage in ("scan", "join"):
            bound.look([column for column in columns if column in bound.opened[stage]], rows)
        joined = joined * rows
    for stage in ("cross", "group"):
        bound.look(bound.opened[stage], joined)
    results = min(joined, 1) if question.grouped and not question.groups else joined
    bound.look_at_pairs(asked_pairs(question), "order", results)
    told = results if question.most is None else min(results, question.most)
    bound.look_at_pairs(_told_pairs(question), "tell", told)
    return (bound.cells_read, bound.looks)
