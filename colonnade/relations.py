"""Relations among values that codes keep, and evidence of what they do not keep."""

from colonnade.errors import NoRelation

RELATIONS = ("none", "same", "order", "distance", "value")


def _strength(name):
    if name not in RELATIONS:
        raise NoRelation(name)
    return RELATIONS.index(name)


def is_enough(kept, needed):
    """Tell whether the relation that is kept is the needed one or a stronger one."""
    strength = _strength(kept)
    return strength >= _strength(needed)


def weakest(*names):
    """Return the weakest of the relations."""
    return RELATIONS[min([_strength(name) for name in names], default=len(RELATIONS) - 1)]


def strongest(*names):
    """Return the strongest of the relations."""
    return RELATIONS[max([_strength(name) for name in names], default=0)]


def _keeps_same(pairs):
    codes = {}
    values = {}
    for value, code in pairs:
        if codes.setdefault(value, code) != code or values.setdefault(code, value) != value:
            return False
    return True


def _keeps_order(pairs):
    # Called only where "same" is kept: equal values have equal codes there.
    ascending = sorted(pairs)
    return all([one[1] <= other[1] for one, other in zip(ascending, ascending[1:])])


def _has_words(pairs):
    return isinstance(pairs[0][0], str)


def kept_by(pairs):
    """Return what a list of pairs (value, code) keeps at most."""
    if not pairs:
        return "value"
    if not _keeps_same(pairs):
        return "none"
    if not _keeps_order(pairs):
        return "same"
    if _has_words(pairs):
        return "order"
    shift = pairs[0][1] - pairs[0][0]
    if any(code - value != shift for value, code in pairs):
        return "order"
    return "value" if shift == 0 else "distance"


def _clash(one, other, needed):
    if needed == "same":
        return (one[0] == other[0]) != (one[1] == other[1])
    if needed == "order":
        return (one[0] < other[0]) != (one[1] < other[1]) or (one[0] > other[0]) != (one[1] > other[1])
    return one[1] - one[0] != other[1] - other[0]


def _first_clash(pairs, needed):
    for at, one in enumerate(pairs):
        for other in pairs[at + 1:]:
            if _clash(one, other, needed):
                return [one, other]
    return []


def evidence(pairs):
    """Return the pairs that show why a list of pairs keeps no more than it keeps."""
    kept = kept_by(pairs)
    if kept == "value" or (kept == "order" and _has_words(pairs)):
        return []
    if kept == "distance":
        return [pairs[0]]
    return _first_clash(pairs, RELATIONS[_strength(kept) + 1])
