"""Moments: which places are seen at them, and what stays behind when some are let go.

Toggles are a list or tuple of pairs of a moment and a Stretches, with ascending moments.
"""

from colonnade.stretches import Stretches


def seen_at(toggles, moment):
    """Return the places that are toggled an odd number of times up to the moment."""
    seen = Stretches()
    for at, places in toggles:
        if at <= moment:
            seen = seen ^ places
    return seen


def ever_seen(toggles, kept):
    """Return the places that are seen at one or more of the moments."""
    seen = Stretches()
    for moment in kept:
        seen = seen | seen_at(toggles, moment)
    return seen


def gone_toggles(toggles, kept):
    """Return the toggles behind letting go all moments but the kept ones."""
    gone = []
    before = Stretches()
    for moment in kept:
        # What is toggled between two kept moments is what is seen at only one of them.
        seen = seen_at(toggles, moment)
        changed = seen ^ before
        if changed.pairs:
            gone.append((moment, changed))
        before = seen
    return gone
