"""Mendings: books brought into another room, with as little change as possible."""

from colonnade.books import Book, check_room
from colonnade.errors import NoRoom


def leads(book):
    """Return the list of the leads of the entries, in ascending order of the values."""
    return [code - rank for rank, (value, code) in enumerate(book.entries)]


class Mending:
    """A mended book, its cost, the values that keep their codes, and clash chains."""

    def __init__(self, book, cost, kept, chains):
        self.book = book
        self.cost = cost
        self.kept = tuple(kept)
        self.chains = tuple(chains)


def _fit_entries(book, room, weights):
    """Return the triples (rank, lead, weight) of the entries that could keep their codes."""
    found = []
    for rank, lead in enumerate(leads(book)):
        if 0 <= lead <= room - len(book.entries):
            value = book.entries[rank][0]
            found.append((rank, lead, weights.get(value, 0)))
    return found


def _heights(fit):
    """Return for each fit entry the greatest weight of entries up to it that keep their codes with it."""
    heights = []
    for at, (rank, lead, weight) in enumerate(fit):
        under = [heights[k] for k in range(at) if fit[k][1] <= lead]
        heights.append(weight + max(under, default=0))
    return heights


def _kept_leads(fit, heights):
    """Return the leads, by rank, of entries of the greatest weight that keep their codes together."""
    kept = {}
    height = max(heights, default=0)
    bound = None
    for at in reversed(range(len(fit))):
        rank, lead, weight = fit[at]
        if heights[at] == height and (bound is None or lead <= bound):
            kept[rank] = lead
            bound = lead
            height -= weight
    return kept


def _clash_chains(book, fit, heights):
    """Return clash chains that cover the book and weigh just what the kept entries weigh.

    Each fit entry takes up the heights from its own less its weight to its own. Entries that
    could keep their codes together take up different heights, so those that share a height clash.
    """
    spread = [(rank, heights[at] - weight, heights[at]) for at, (rank, lead, weight) in enumerate(fit) if weight]
    borders = sorted(set([low for rank, low, high in spread] + [high for rank, low, high in spread]))
    chains = []
    for start, end in zip(borders, borders[1:]):
        values = [book.entries[rank][0] for rank, low, high in spread if low <= start and end <= high]
        chains.append((end - start, tuple(values)))
    return chains


def _mended_entries(book, kept):
    """Return the entries with new codes: the others take the lead of the kept entry in front."""
    entries = []
    lead = 0
    for rank, (value, code) in enumerate(book.entries):
        lead = kept.get(rank, lead)
        entries.append((value, lead + rank))
    return entries


def mend_book(book, room, weights):
    """Return a cheapest mending for the new room, with covering clash chains."""
    check_room(room)
    if room < len(book.entries):
        raise NoRoom(room)
    fit = _fit_entries(book, room, weights)
    heights = _heights(fit)
    mended = Book(book.domain, room, _mended_entries(book, _kept_leads(fit, heights)))
    kept = []
    cost = 0
    for value, code in book.entries:
        if mended.code_of(value) == code:
            kept.append(value)
        else:
            cost += weights.get(value, 0)
    return Mending(mended, cost, kept, _clash_chains(book, fit, heights))
