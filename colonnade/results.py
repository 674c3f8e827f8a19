"""From rows to the answer: joined rows, results, their order and their items.

A result is a pair of the number of its rows and a dict from the pairs (what, column) of the
items and keys to entries. The entries may be values or codes.
"""


def joined_rows(rows, keys, others, other_keys):
    """Return each row combined with each other row of an equal key, in the order of both lists."""
    partners = {}
    for other, key in zip(others, other_keys):
        partners.setdefault(key, []).append(other)
    return [{**row, **other} for row, key in zip(rows, keys) for other in partners.get(key, [])]


def asked_pairs(question):
    """Return the different pairs (what, column) of the items and the keys."""
    pairs = {}
    for pair in question.tells:
        pairs[pair] = True
    for what, column, _ in question.sorts:
        pairs[(what, column)] = True
    return list(pairs)


def _groups_of(columns, rows):
    """Return the lists of the rows with equal entries, in the order of their first rows."""
    groups = {}
    for row in rows:
        groups.setdefault(tuple([row[column] for column in columns]), []).append(row)
    return list(groups.values())


def _entry_of(what, column, group):
    if what == "count":
        return len(group)
    entries = [row[column] for row in group]
    if what == "column":
        return entries[0]
    if what == "distinct":
        return len(set(entries))
    if what == "sum":
        return sum(entries)
    return min(entries) if what == "least" else max(entries)


def results_of(question, rows):
    """Return the results that are made of the chosen rows."""
    pairs = asked_pairs(question)
    groups = _groups_of(question.groups, rows) if question.grouped else [[row] for row in rows]
    return [(len(group), {pair: _entry_of(pair[0], pair[1], group) for pair in pairs}) for group in groups]


def _sorted_by(results, pair, down):
    # A stable sorting either way: results with equal entries stay in their order.
    if down:
        return sorted(results, key=lambda result: result[1][pair], reverse=True)
    return sorted(results, key=lambda result: result[1][pair])


def ordered_results(question, results):
    """Return the results sorted by the keys and cut behind the first ones asked for."""
    for what, column, down in reversed(question.sorts):
        results = _sorted_by(results, (what, column), down)
    return list(results) if question.most is None else results[:question.most]


def answer_of(question, results):
    """Return the list of the tuples of the items of each result."""
    return [tuple([entries[pair] for pair in question.tells]) for many, entries in results]
