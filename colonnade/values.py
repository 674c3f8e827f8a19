"""Names, and the values of the two domains."""

from colonnade.errors import BadValue

KEY_WORDS = (
    "from", "join", "on", "where", "and", "or", "not", "in", "group", "tell", "count", "distinct",
    "least", "greatest", "sum", "order", "down", "first", "at",
)
LETTERS = "abcdefghijklmnopqrstuvwxyz"
LONGEST = 8
LEAST_NUMBER = -999999999
GREATEST_NUMBER = 999999999


def is_integer_from(value, low, high):
    """Tell whether a value is an integer from low to high; True and False are none."""
    return isinstance(value, int) and not isinstance(value, bool) and low <= value <= high


def _is_word(value):
    if not isinstance(value, str) or not 1 <= len(value) <= LONGEST:
        return False
    return all(letter in LETTERS for letter in value)


def is_name(text):
    """Tell whether a string is a name."""
    return _is_word(text) and text not in KEY_WORDS


def is_value(domain, value):
    """Tell whether a value is one of the domain."""
    if domain == "number":
        return is_integer_from(value, LEAST_NUMBER, GREATEST_NUMBER)
    return domain == "word" and _is_word(value)


def domain_of(value):
    """Return the domain of a value."""
    if is_value("number", value):
        return "number"
    if is_value("word", value):
        return "word"
    raise BadValue(value)


def next_value(value):
    """Return the least greater value of the domain, or None."""
    if domain_of(value) == "number":
        return value + 1 if value < GREATEST_NUMBER else None
    if len(value) < LONGEST:
        return value + "a"
    front = value.rstrip("z")
    if not front:
        return None
    return front[:-1] + LETTERS[LETTERS.index(front[-1]) + 1]


def value_before(value):
    """Return the greatest smaller value of the domain, or None."""
    if domain_of(value) == "number":
        return value - 1 if value > LEAST_NUMBER else None
    front = value[:-1]
    if value[-1] == "a":
        return front if front else None
    return (front + LETTERS[LETTERS.index(value[-1]) - 1]).ljust(LONGEST, "z")


def _values_along(step, value, many):
    """Return up to so many values that are found from a value, step by step."""
    found = []
    for _ in range(many):
        value = step(value)
        if value is None:
            return found
        found.append(value)
    return found


def near_values(domain, values, many):
    """Return the values, and so many next to each of them on both sides, ascending."""
    if not values:
        first = 0 if domain == "number" else "a"
        return [first] + _values_along(next_value, first, many - 1) if many else []
    near = {}
    for value in values:
        behind = _values_along(next_value, value, many)
        for found in _values_along(value_before, value, many) + [value] + behind:
            near[found] = True
    return sorted(near)


def written(value):
    """Return the text of a value, as filters and questions have it."""
    return f"'{value}'" if isinstance(value, str) else str(value)
