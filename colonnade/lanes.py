"""Words of lanes: small numbers side by side in integers of 60 bits."""

from colonnade.errors import BadCells, Unfit

WORD_BITS = 60
GREATEST_WIDTH = 29


def lane_count(width):
    """Return the number of lanes of a word."""
    return WORD_BITS // (width + 1)


def _check_fit(numbers, width):
    for number in numbers:
        if not 0 <= number < 1 << width:
            raise Unfit("lanes")


def width_of(numbers):
    """Return the least width whose lanes can hold the numbers."""
    _check_fit(numbers, GREATEST_WIDTH)
    return max([1] + [number.bit_length() for number in numbers])


def _word_of(numbers, width):
    word = 0
    for at, number in enumerate(numbers):
        word = word | number << at * (width + 1)
    return word


def pack(numbers, width):
    """Return the list of words that hold the numbers."""
    _check_fit(numbers, width)
    many = lane_count(width)
    return [_word_of(numbers[start:start + many], width) for start in range(0, len(numbers), many)]


def _lanes_of(word, width):
    mask = (1 << width) - 1
    return [word >> at * (width + 1) & mask for at in range(lane_count(width))]


def unpack(words, width, count):
    """Return the so many numbers whose words these are."""
    if len(words) * lane_count(width) < count:
        raise BadCells()
    numbers = [number for word in words for number in _lanes_of(word, width)][:count]
    # What was read leaves out all bits that must be 0: only right words come out again.
    if pack(numbers, width) != list(words):
        raise BadCells()
    return numbers


def lanes_below(word, width, bound):
    """Return for each lane of the word whether its number is less than the bound."""
    return tuple([number < bound for number in _lanes_of(word, width)])
