"""Filters on values, translated to filters on codes."""

from colonnade.filters import Compare, Every, Fixed, Opposite, Pair, Some, Within


def rebuilt(test, change):
    """Return a filter made like this one, of what a function makes of each leaf."""
    if isinstance(test, Every):
        return Every([rebuilt(part, change) for part in test.parts])
    if isinstance(test, Some):
        return Some([rebuilt(part, change) for part in test.parts])
    if isinstance(test, Opposite):
        return Opposite(rebuilt(test.part, change))
    return test if isinstance(test, Fixed) else change(test)


def _below(column, value, book):
    bound = book.bound(value)
    return Fixed(True) if bound is None else Compare(column, "<", bound)


def _compare_on_codes(column, sign, value, book):
    if sign == "=":
        return Compare(column, "=", book.code_of(value)) if value in book else Fixed(False)
    if sign == "<":
        return _below(column, value, book)
    if sign == "<=":
        return Compare(column, "<=", book.code_of(value)) if value in book else _below(column, value, book)
    opposites = {"<>": "=", ">": "<=", ">=": "<"}
    return Opposite(_compare_on_codes(column, opposites[sign], value, book))


def _leaf_on_codes(leaf, books):
    book = books.get(leaf.column)
    if book is None or isinstance(leaf, Pair):
        return leaf
    if isinstance(leaf, Compare):
        return _compare_on_codes(leaf.column, leaf.sign, leaf.value, book)
    codes = [book.code_of(choice) for choice in leaf.choices if choice in book]
    return Within(leaf.column, codes) if codes else Fixed(False)


def on_codes(test, books):
    """Return the translation of a filter, for a dict from columns to books or None."""
    return rebuilt(test, lambda leaf: _leaf_on_codes(leaf, books))
