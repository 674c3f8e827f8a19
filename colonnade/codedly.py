"""The coded meaning of questions: the same work, on codes, until books are opened."""

from colonnade.results import answer_of, joined_rows, ordered_results, results_of
from colonnade.translating import on_codes

STAGES = ("scan", "join", "cross", "group", "order", "tell")


def stage_after(stage):
    """Return the stage behind a stage; behind the last one it is this one again."""
    return STAGES[min(STAGES.index(stage) + 1, len(STAGES) - 1)]


def _stages_left(question, openings, column, stage):
    """Return how many stages the column's book is still closed; 0 if it is opened just now."""
    return STAGES.index(openings[question.shapes.book_of(column)]) - STAGES.index(stage)


def _book_columns(question):
    return [column for column in question.columns_named() if question.shapes.book_of(column)]


def books_opened_at(question, books, openings, stage):
    """Return a dict to their books from the named columns that are opened just before the stage."""
    shapes = question.shapes
    columns = [name for name in _book_columns(question) if _stages_left(question, openings, name, stage) == 0]
    return {column: books[shapes.book_of(column)] for column in columns}


def books_closed_at(question, books, openings, stage):
    """Return a dict to their books from the named columns that hold codes at the stage."""
    shapes = question.shapes
    columns = [name for name in _book_columns(question) if _stages_left(question, openings, name, stage) > 0]
    return {column: books[shapes.book_of(column)] for column in columns}


def opened_rows(rows, opened):
    """Return the rows with values for the codes of the columns that are opened."""
    return [
        {column: opened[column].value_of(entry) if column in opened else entry for column, entry in row.items()}
        for row in rows
    ]


def _opened_entry(pair, entry, many, opened):
    what, column = pair
    if what in ("column", "least", "greatest") and column in opened:
        return opened[column].value_of(entry)
    if what == "sum" and column in opened:
        return entry + many * opened[column].base()
    return entry


def opened_results(results, opened):
    """Return the results with values for the codes of the columns that are opened."""
    return [
        (many, {pair: _opened_entry(pair, entry, many, opened) for pair, entry in entries.items()})
        for many, entries in results
    ]


def kept_rows(rows, tests, closed):
    """Return the rows for which all tests hold, translated for the columns that hold codes."""
    translated = [on_codes(test, closed) for test in tests]
    return [row for row in rows if all([test.holds(row) for test in translated])]


def join_keys(question, rows, column, other, closed):
    """Return the list of what the entries of a joined column are compared by."""
    book = question.shapes.book_of(column)
    if column in closed and book != question.shapes.book_of(other):
        return [closed[column].value_of(row[column]) for row in rows]
    return [row[column] for row in rows]


def joined_tables(question, tables, closed):
    """Return the joined rows of the kept rows of all tables, a dict."""
    joined = tables[question.tables[0]]
    for table, (first, second) in zip(question.tables[1:], question.joins):
        keys = join_keys(question, joined, first, second, closed)
        others = tables[table]
        joined = joined_rows(joined, keys, others, join_keys(question, others, second, first, closed))
    return joined


def _coded_rows(question, books, table, rows):
    """Return the rows as dicts of the named columns, with codes where these have books."""
    shapes = question.shapes
    named = question.columns_named()
    columns = [(at, column) for at, column in enumerate(shapes.columns_of(table)) if column in named]
    found = []
    for row in rows:
        coded = {}
        for at, column in columns:
            book = shapes.book_of(column)
            coded[column] = books[book].code_of(row[at]) if book else row[at]
        found.append(coded)
    return found


def coded_answer(question, books, rows, openings):
    """Return the coded answer, a list of tuples."""
    tables = {table: _coded_rows(question, books, table, rows.get(table, [])) for table in question.tables}
    opened = {stage: books_opened_at(question, books, openings, stage) for stage in STAGES}
    closed = {stage: books_closed_at(question, books, openings, stage) for stage in STAGES}
    for table in question.tables:
        kept = kept_rows(opened_rows(tables[table], opened["scan"]), question.scan_tests(table), closed["scan"])
        tables[table] = opened_rows(kept, opened["join"])
    joined = opened_rows(joined_tables(question, tables, closed["join"]), opened["cross"])
    chosen = kept_rows(joined, question.cross_tests(), closed["cross"])
    results = opened_results(results_of(question, opened_rows(chosen, opened["group"])), opened["order"])
    return answer_of(question, opened_results(ordered_results(question, results), opened["tell"]))
