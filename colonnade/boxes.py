"""Boxes: the rows of integers that lie within bounds, and the fewest groups of sure rows."""


def hull(rows):
    """Return the least box in which all rows lie."""
    box = {}
    for column in rows[0]:
        entries = [row[column] for row in rows]
        box[column] = (min(entries), max(entries))
    return box


def in_box(row, box):
    """Tell whether a row lies in a box."""
    return all([low <= row[column] <= high for column, (low, high) in box.items()])


def _widened(box, row):
    return {column: (min(low, row[column]), max(high, row[column])) for column, (low, high) in box.items()}


def covers_by(rows, judge):
    """Return the fewest covers of the rows, in the order of the list.

    The judge is a function that gives each box a reason, or the empty string if it is not sure;
    it is sure of each box with one row, and of each box within a box of which it is sure.
    """
    covers = []
    for at, row in enumerate(rows):
        if covers:
            wide = _widened(covers[-1][3], row)
            reason = judge(wide)
            if reason:
                covers[-1] = (covers[-1][0], at + 1, reason, wide)
                continue
        single = hull([row])
        covers.append((at, at + 1, judge(single), single))
    return covers


def _sure_reason(test, box):
    verdict = test.verdict(box)
    return "" if verdict == "open" else verdict


def fewest_covers(rows, test):
    """Return the fewest covers of the rows on which the filter is sure."""
    return covers_by(rows, lambda box: _sure_reason(test, box))


def bars_of(covers):
    """Return the list of the starts of covers."""
    return [start for start, end, reason, box in covers]
