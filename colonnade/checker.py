"""The checker: claims, and whether a paper shows that one is so.

A paper is refused rather than trusted: it may be built of any integers and strings.
"""

from colonnade.books import Book
from colonnade.boxes import in_box
from colonnade.cutting import Cutting, block_price
from colonnade.errors import RuleRefused
from colonnade.mending import Mending, leads
from colonnade.papers import judge_for, scan_columns, seen_codes
from colonnade.plainly import plain_answer
from colonnade.records import found_records, lacking_files, log_records
from colonnade.rules import follow
from colonnade.values import is_integer_from


def _is_integer(value):
    return isinstance(value, int) and not isinstance(value, bool)


def _has_just(told, names):
    """Tell whether a dict has just these keys."""
    return isinstance(told, dict) and len(told) == len(names) and all([name in told for name in names])


class Claim:
    """The base class of all claims; never made itself."""

    def accepts(self, paper):
        """Tell whether the paper shows that the claim is so."""
        return False


def _are_bounds(bounds):
    if not isinstance(bounds, tuple) or len(bounds) != 2:
        return False
    return _is_integer(bounds[0]) and _is_integer(bounds[1]) and bounds[0] <= bounds[1]


def _is_cover(cover, columns, many):
    """Tell whether this is a cover of places below `many`, whose box has these columns."""
    if not isinstance(cover, tuple) or len(cover) != 4:
        return False
    start, end, reason, box = cover
    if not is_integer_from(start, 0, many) or not is_integer_from(end, 0, many) or start >= end:
        return False
    if reason not in ("always", "never") or not _has_just(box, columns):
        return False
    return all([_are_bounds(box[name]) for name in columns])


def _are_covers(covers, columns, many):
    """Tell whether these are covers, one behind the other."""
    if not isinstance(covers, tuple) or not all([_is_cover(cover, columns, many) for cover in covers]):
        return False
    return all([one[1] <= other[0] for one, other in zip(covers, covers[1:])])


def _covers_of(places, covers):
    """Return for each of the ascending places the cover in which it lies, or None."""
    found = []
    at = 0
    for place in places:
        while at < len(covers) and covers[at][1] <= place:
            at += 1
        inside = at < len(covers) and covers[at][0] <= place
        found.append(covers[at] if inside else None)
    return found


def _always_rows(question, scene, table, covers):
    """Return the rows of values in covers with the reason "always", or None if the covers are wrong."""
    if not _are_covers(covers, scan_columns(question, table), scene.table_named(table).many):
        return None
    judge = judge_for(question, scene, table)
    if any([judge.verdict(box) != reason for start, end, reason, box in covers]):
        return None
    places, rows = seen_codes(question, scene, table)
    found = _covers_of(places, covers)
    for cover, row in zip(found, rows):
        if cover is None or not in_box(row, cover[3]):
            return None
    return [row for cover, row in zip(found, scene.rows_of(table)) if cover[2] == "always"]


class AnswerClaim(Claim):
    """Some rows are the answer to a question on a scene."""

    def __init__(self, question, scene, rows):
        self._question = question
        self._scene = scene
        self._rows = list(rows)

    def accepts(self, paper):
        """Tell whether the covers show the claim."""
        question = self._question
        if not _has_just(paper, question.tables):
            return False
        rows = {}
        for table in question.tables:
            rows[table] = _always_rows(question, self._scene, table, paper[table])
            if rows[table] is None:
                return False
        return plain_answer(question.with_tests(question.cross_tests()), rows) == self._rows


class PlanClaim(Claim):
    """A plan has the plain answer of a question, wherever the books keep the told relations."""

    def __init__(self, question, kept, plan):
        self._question = question
        self._kept = dict(kept)
        self._plan = plan

    def accepts(self, paper):
        """Tell whether the rules make the plan."""
        if not isinstance(paper, list):
            return False
        try:
            made = follow(self._question, paper, self._kept)
        except RuleRefused:
            return False
        plan = self._plan
        if made.question.text != plan.question.text or made.openings != plan.openings:
            return False
        return made.passing == plan.passing and made.size == plan.size


def _fit_leads(book, room):
    """Return the dict from the values of the fit entries to their leads."""
    values = [value for value, code in book.entries]
    most = room - len(values)
    return {value: lead for value, lead in zip(values, leads(book)) if 0 <= lead <= most}


def _are_values(values, fit):
    return isinstance(values, tuple) and len(values) > 0 and all([
        isinstance(value, (int, str)) and not isinstance(value, bool) and value in fit for value in values
    ])


def _is_clash_chain(chain, fit):
    """Tell whether this is a clash chain; `fit` has the leads of the fit entries."""
    if not isinstance(chain, tuple) or len(chain) != 2:
        return False
    weight, values = chain
    if not _is_integer(weight) or weight <= 0 or not _are_values(values, fit):
        return False
    return all([one < other and fit[one] > fit[other] for one, other in zip(values, values[1:])])


def _cover_weights(chains, fit, weights):
    """Tell whether the weights of the chains in which they are sum up to at least those of the fit entries."""
    held = {}
    for weight, values in chains:
        for value in values:
            held[value] = held.get(value, 0) + weight
    return all([held.get(value, 0) >= weights.get(value, 0) for value in fit])


def _is_mended(mended, book, room):
    """Tell whether this is the book in another room, with no strays."""
    if not isinstance(mended, Book) or mended.domain != book.domain or mended.room != room or mended.strays:
        return False
    return [value for value, code in mended.entries] == [value for value, code in book.entries]


class MendingClaim(Claim):
    """A cost is the least one of a mending of a book, for a new room and weights."""

    def __init__(self, book, room, weights, cost):
        self._book = book
        self._room = room
        self._weights = dict(weights)
        self._cost = cost

    def accepts(self, paper):
        """Tell whether the mending has the cost, and its chains show that none has less."""
        if not isinstance(paper, Mending) or not _is_mended(paper.book, self._book, self._room):
            return False
        if not _is_integer(paper.cost) or paper.cost != self._cost or paper.cost != self._changed_weight(paper.book):
            return False
        fit = _fit_leads(self._book, self._room)
        if not all([_is_clash_chain(chain, fit) for chain in paper.chains]):
            return False
        whole = sum([self._weights.get(value, 0) for value, code in self._book.entries])
        if sum([weight for weight, values in paper.chains]) + paper.cost != whole:
            return False
        return _cover_weights(paper.chains, fit, self._weights)

    def _changed_weight(self, mended):
        changed = [value for value, code in self._book.entries if mended.code_of(value) != code]
        return sum([self._weights.get(value, 0) for value in changed])


class CuttingClaim(Claim):
    """A price is the least one of a cutting."""

    def __init__(self, columns, chains, most, head, price):
        self._columns = [list(column) for column in columns]
        self._chains = list(chains)
        self._most = most
        self._head = head
        self._price = price

    def accepts(self, paper):
        """Tell whether the cutting has the price, and its border prices show that none has less."""
        if not isinstance(paper, Cutting) or not self._are_ends(paper.ends) or not self._are_prices(paper.prices):
            return False
        if not _is_integer(paper.price) or paper.price != self._price or paper.prices[-1] != self._price:
            return False
        return self._show(paper.ends, paper.prices)

    def _are_ends(self, ends):
        """Tell whether these are the ends of blocks that are not too long."""
        if not ends or not all([_is_integer(end) for end in ends]) or ends[-1] != len(self._columns[0]):
            return False
        return all([0 < end - start <= self._most for start, end in zip([0, *ends], ends)])

    def _are_prices(self, prices):
        if len(prices) != len(self._columns[0]) + 1 or not all([_is_integer(price) for price in prices]):
            return False
        return prices[0] == 0

    def _show(self, ends, prices):
        """Tell whether the prices rise along the blocks by just theirs, and along no other one by more."""
        blocks = list(zip([0, *ends], ends))
        for end in range(1, len(prices)):
            for start in range(max(0, end - self._most), end):
                rise = prices[end] - prices[start]
                price = block_price(self._columns, self._chains, self._head, start, end)
                if rise > price or (rise < price and (start, end) in blocks):
                    return False
        return True


class FoundClaim(Claim):
    """A record is the last one that is found on a disk."""

    def __init__(self, disk, number):
        self._disk = disk
        self._number = number

    def accepts(self, paper):
        """Tell whether the record is found, and the files named are missing to the later ones."""
        if not isinstance(paper, list) or self._number not in found_records(self._disk):
            return False
        later = log_records(self._disk)[self._number + 1:]
        if len(paper) != len(later):
            return False
        return all([name in lacking_files(self._disk, record) for name, record in zip(paper, later)])


def accepts(claim, paper):
    """Tell whether a paper shows that a claim is so."""
    return claim.accepts(paper)
