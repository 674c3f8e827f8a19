"""The plain meaning of questions, on rows of values."""

from colonnade.results import answer_of, joined_rows, ordered_results, results_of


def _table_rows(question, rows, table):
    columns = question.shapes.columns_of(table)
    return [dict(zip(columns, row)) for row in rows.get(table, [])]


def chosen_rows(question, rows):
    """Return the list of the joined rows for which all tests hold, as dicts."""
    joined = _table_rows(question, rows, question.tables[0])
    for table, (first, second) in zip(question.tables[1:], question.joins):
        others = _table_rows(question, rows, table)
        joined = joined_rows(joined, [row[first] for row in joined], others, [other[second] for other in others])
    return [row for row in joined if all([test.holds(row) for test in question.tests])]


def plain_answer(question, rows):
    """Return the answer to a question, a list of tuples."""
    results = results_of(question, chosen_rows(question, rows))
    return answer_of(question, ordered_results(question, results))
