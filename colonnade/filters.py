"""Filters: what is asked of rows, and of boxes of rows."""

from colonnade.values import written

# Each of these signs holds exactly where the other one does not.
OPPOSITE_SIGNS = {"<>": "=", ">": "<=", ">=": "<"}
OPPOSITE_VERDICTS = {"always": "never", "never": "always", "open": "open"}


def _stands(left, sign, right):
    if sign in OPPOSITE_SIGNS:
        return not _stands(left, OPPOSITE_SIGNS[sign], right)
    if sign == "=":
        return left == right
    if sign == "<":
        return left < right
    return left <= right


def _sides_verdict(left, sign, right):
    """Return the verdict for two entries that lie, each by itself, in pairs (low, high)."""
    if sign in OPPOSITE_SIGNS:
        return OPPOSITE_VERDICTS[_sides_verdict(left, OPPOSITE_SIGNS[sign], right)]
    if sign == "=":
        always = left[0] == left[1] == right[0] == right[1]
        never = left[1] < right[0] or right[1] < left[0]
    else:
        # If the entries least in favour stand so, all do; if those most in favour do not, none do.
        always = _stands(left[1], sign, right[0])
        never = not _stands(left[0], sign, right[1])
    if always:
        return "always"
    return "never" if never else "open"


def _all_columns(parts):
    columns = {}
    for part in parts:
        for column in part.columns_used():
            columns[column] = True
    return tuple(sorted(columns))


def _all_leaves(parts):
    return [leaf for part in parts for leaf in part.leaves()]


def _in_brackets(text):
    return "(" + text + ")"


class Filter:
    """The base class of all filters; never made itself."""

    def __and__(self, other):
        return Every([self, other])

    def __or__(self, other):
        return Some([self, other])

    def __invert__(self):
        return Opposite(self)


class Compare(Filter):
    """Holds if the column's entry stands in a relation to a value."""

    def __init__(self, column, sign, value):
        self.column = column
        self.sign = sign
        self.value = value
        self.text = f"{column} {sign} {written(value)}"

    def columns_used(self):
        """Return the names of the columns, ascending, each once."""
        return (self.column,)

    def leaves(self):
        """Return the list of the leaves from left to right."""
        return [self]

    def holds(self, row):
        """Tell whether the filter holds for a row."""
        return _stands(row[self.column], self.sign, self.value)

    def verdict(self, box):
        """Return "always", "never" or "open" for a box."""
        return _sides_verdict(box[self.column], self.sign, (self.value, self.value))


class Pair(Filter):
    """Holds if the entries of two columns stand in a relation."""

    def __init__(self, column, sign, other):
        self.column = column
        self.sign = sign
        self.other = other
        self.text = f"{column} {sign} {other}"

    def columns_used(self):
        """Return the names of the columns, ascending, each once."""
        if self.column == self.other:
            return (self.column,)
        return (min(self.column, self.other), max(self.column, self.other))

    def leaves(self):
        """Return the list of the leaves from left to right."""
        return [self]

    def holds(self, row):
        """Tell whether the filter holds for a row."""
        return _stands(row[self.column], self.sign, row[self.other])

    def verdict(self, box):
        """Return "always", "never" or "open" for a box."""
        if self.column == self.other:
            # A column's entry is always equal to itself, however wide the box is.
            return "always" if _stands(0, self.sign, 0) else "never"
        return _sides_verdict(box[self.column], self.sign, box[self.other])


class Within(Filter):
    """Holds if the column's entry is one of the choices."""

    def __init__(self, column, choices):
        self.column = column
        self.choices = tuple(sorted(set(choices)))
        texts = [written(choice) for choice in self.choices]
        self.text = f"{column} in " + _in_brackets(", ".join(texts))

    def columns_used(self):
        """Return the names of the columns, ascending, each once."""
        return (self.column,)

    def leaves(self):
        """Return the list of the leaves from left to right."""
        return [self]

    def holds(self, row):
        """Tell whether the filter holds for a row."""
        return row[self.column] in self.choices

    def verdict(self, box):
        """Return "always", "never" or "open" for a box."""
        low, high = box[self.column]
        if not any(low <= choice <= high for choice in self.choices):
            return "never"
        return "always" if low == high else "open"


class Every(Filter):
    """Holds if all parts hold."""

    def __init__(self, parts):
        flat = []
        for part in parts:
            if isinstance(part, Every):
                flat.extend(part.parts)
            else:
                flat.append(part)
        self.parts = tuple(flat)
        texts = [_in_brackets(part.text) if isinstance(part, Some) else part.text for part in flat]
        self.text = " and ".join(texts)

    def columns_used(self):
        """Return the names of the columns, ascending, each once."""
        return _all_columns(self.parts)

    def leaves(self):
        """Return the list of the leaves from left to right."""
        return _all_leaves(self.parts)

    def holds(self, row):
        """Tell whether the filter holds for a row."""
        return all(part.holds(row) for part in self.parts)

    def verdict(self, box):
        """Return "always", "never" or "open" for a box."""
        verdicts = [part.verdict(box) for part in self.parts]
        if "never" in verdicts:
            return "never"
        return "open" if "open" in verdicts else "always"


class Some(Filter):
    """Holds if at least one part holds."""

    def __init__(self, parts):
        flat = []
        for part in parts:
            if isinstance(part, Some):
                flat.extend(part.parts)
            else:
                flat.append(part)
        self.parts = tuple(flat)
        self.text = " or ".join([part.text for part in flat])

    def columns_used(self):
        """Return the names of the columns, ascending, each once."""
        return _all_columns(self.parts)

    def leaves(self):
        """Return the list of the leaves from left to right."""
        return _all_leaves(self.parts)

    def holds(self, row):
        """Tell whether the filter holds for a row."""
        return any(part.holds(row) for part in self.parts)

    def verdict(self, box):
        """Return "always", "never" or "open" for a box."""
        verdicts = [part.verdict(box) for part in self.parts]
        if "always" in verdicts:
            return "always"
        return "open" if "open" in verdicts else "never"


class Opposite(Filter):
    """Holds if the part does not hold."""

    def __init__(self, part):
        self.part = part
        nested = isinstance(part, (Every, Some))
        self.text = "not " + (_in_brackets(part.text) if nested else part.text)

    def columns_used(self):
        """Return the names of the columns, ascending, each once."""
        return self.part.columns_used()

    def leaves(self):
        """Return the list of the leaves from left to right."""
        return self.part.leaves()

    def holds(self, row):
        """Tell whether the filter holds for a row."""
        return not self.part.holds(row)

    def verdict(self, box):
        """Return "always", "never" or "open" for a box."""
        return OPPOSITE_VERDICTS[self.part.verdict(box)]


class Fixed(Filter):
    """Holds always or never."""

    def __init__(self, truth):
        self.truth = truth
        self.text = "always" if truth else "never"

    def columns_used(self):
        """Return the names of the columns: none."""
        return ()

    def leaves(self):
        """Return the list of the leaves: none."""
        return []

    def holds(self, row):
        """Tell whether the filter holds for a row."""
        return self.truth

    def verdict(self, box):
        """Return "always" or "never" for a box."""
        return self.text


def parts_of(test):
    """Return the list of the parts of a filter: the filter itself if it is not Every."""
    return list(test.parts) if isinstance(test, Every) else [test]


def every_of(tests):
    """Return one filter that holds where all of a list hold, or None for no filters."""
    if not tests:
        return None
    return tests[0] if len(tests) == 1 else Every(tests)
