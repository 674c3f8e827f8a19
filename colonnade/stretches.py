"""Stretches: sets of places, kept as ascending pairs of a start and an end."""


def _merged(pairs):
    """Return the stretches of the places of any pairs."""
    merged = []
    for start, end in sorted(pairs):
        if merged and start <= merged[-1][1]:
            merged[-1] = (merged[-1][0], max(end, merged[-1][1]))
        else:
            merged.append((start, end))
    return tuple(merged)


def _shared(first, second):
    """Return the stretches of the places that are in both tuples of stretches."""
    shared = []
    one = 0
    other = 0
    while one < len(first) and other < len(second):
        start = max(first[one][0], second[other][0])
        end = min(first[one][1], second[other][1])
        if start < end:
            shared.append((start, end))
        if first[one][1] == end:
            one += 1
        else:
            other += 1
    return shared


def _gaps(pairs, count):
    """Return the stretches of the places below the count that are in no stretch."""
    gaps = []
    free = 0
    for start, end in pairs:
        if free < min(start, count):
            gaps.append((free, min(start, count)))
        free = end
    if free < count:
        gaps.append((free, count))
    return gaps


def _without(first, second):
    """Return the stretches of the places that are in the first tuple, but not in the second one."""
    return _shared(first, _gaps(second, first[-1][1])) if first else []


class Stretches:
    """A set of places, which is never changed."""

    def __init__(self, pairs=()):
        self.pairs = _merged(pairs)

    @staticmethod
    def covering(places):
        """Return the set of the places in a list."""
        return Stretches([(place, place + 1) for place in places])

    def __iter__(self):
        return iter(self.pairs)

    def __contains__(self, place):
        low = 0
        high = len(self.pairs)
        while low < high:
            middle = (low + high) // 2
            if place < self.pairs[middle][1]:
                high = middle
            else:
                low = middle + 1
        return low < len(self.pairs) and self.pairs[low][0] <= place

    def __or__(self, other):
        return Stretches(self.pairs + other.pairs)

    def __and__(self, other):
        return Stretches(_shared(self.pairs, other.pairs))

    def __sub__(self, other):
        return Stretches(_without(self.pairs, other.pairs))

    def __xor__(self, other):
        apart = _without(self.pairs, other.pairs) + _without(other.pairs, self.pairs)
        return Stretches(apart)

    def total(self):
        """Return the number of places."""
        return sum([end - start for start, end in self.pairs])

    def each_place(self):
        """Yield the places in ascending order."""
        for start, end in self.pairs:
            for place in range(start, end):
                yield place

    def rest(self, count):
        """Return the set of the places from 0 to count - 1 that are not in this one."""
        return Stretches(_gaps(self.pairs, count))

    def within(self, other):
        """Tell whether all places are in the other set, too."""
        return tuple(_shared(self.pairs, other.pairs)) == self.pairs

    def moved(self, places):
        """Return the set of the new places of its places."""
        reached = [places[place] for place in self.each_place()]
        return Stretches.covering([place for place in reached if place is not None])
