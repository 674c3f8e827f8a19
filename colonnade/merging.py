"""Merging: the ascending runs of a list of keys, and sorting by merging them."""


def runs_of(keys):
    """Return the pairs of the start and the end of the ascending runs."""
    runs = []
    for at, key in enumerate(keys):
        if runs and not key < keys[at - 1]:
            runs[-1] = (runs[-1][0], at + 1)
        else:
            runs.append((at, at + 1))
    return runs


def _merged(keys, first, second):
    """Return the indexes of two runs in sorted order; of equal keys, those of the first run come first."""
    merged = []
    one = 0
    other = 0
    while one < len(first) and other < len(second):
        if keys[second[other]] < keys[first[one]]:
            merged.append(second[other])
            other += 1
        else:
            merged.append(first[one])
            one += 1
    return merged + first[one:] + second[other:]


def _next_round(keys, rows):
    """Return the runs, lists of indexes, of which neighbours are merged two by two."""
    merged = [_merged(keys, first, second) for first, second in zip(rows[::2], rows[1::2])]
    return merged + rows[2 * len(merged):]


def merge_order(keys):
    """Return the list of the indexes in sorted order, equal keys in their order."""
    rows = [list(range(start, end)) for start, end in runs_of(keys)]
    while len(rows) > 1:
        rows = _next_round(keys, rows)
    return rows[0] if rows else []


def rounds_of(keys):
    """Return the number of rounds in which the runs are merged to one."""
    runs = len(runs_of(keys))
    return (runs - 1).bit_length() if runs else 0
