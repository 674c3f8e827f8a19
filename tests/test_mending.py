import itertools
import random
import unittest

from colonnade.books import Book
from colonnade.errors import BadRoom, NoRoom
from colonnade.mending import Mending, leads, mend_book

from tests.helpers import check_raises, check_unchanged


def random_book(draw, domain, room, many):
    values = sorted(draw.sample(range(40), many))
    if domain == "word":
        values = [f"w{chr(97 + value // 26)}{chr(97 + value % 26)}" for value in values]
    while True:
        codes = draw.sample(range(room + draw.choice((0, 4))), many) if room >= many else list(range(many))
        placed = sorted(code for code in codes if code < room)
        entries = [(value, placed.pop(0) if code < room else code) for value, code in zip(values, codes)]
        return Book(domain, room, entries)


def most_kept(book, room, weights):
    """The greatest weight of entries that can keep their codes, over all sets of entries."""
    best = 0
    lead = leads(book)
    ranks = range(len(lead))
    for many in range(len(lead) + 1):
        for kept in itertools.combinations(ranks, many):
            own = [lead[rank] for rank in kept]
            if own == sorted(own) and all(0 <= one <= room - len(lead) for one in own):
                best = max(best, sum(weights.get(book.entries[rank][0], 0) for rank in kept))
    return best


class LeadsTest(unittest.TestCase):
    def test_leads(self):
        book = Book("number", 10, [(30, 4), (10, 12), (20, 2), (40, 9)])
        self.assertEqual(leads(book), [12, 1, 2, 6])
        self.assertEqual(leads(Book("word", 3)), [])


class MendingTest(unittest.TestCase):
    def check_mending(self, book, room, weights, cost=None):
        mending = check_unchanged_weights(self, book, room, weights)
        mended = mending.book
        self.assertIs(mending.__class__, Mending)
        self.assertEqual((mended.domain, mended.room, mended.strays), (book.domain, room, ()))
        self.assertEqual([value for value, _ in mended.entries], [value for value, _ in book.entries])
        codes = [code for _, code in mended.entries]
        self.assertEqual(codes, sorted(codes))
        kept = tuple(value for value, code in book.entries if mended.code_of(value) == code)
        self.assertEqual(mending.kept, kept)
        total = sum(weights.get(value, 0) for value, _ in book.entries)
        self.assertEqual(mending.cost, total - sum(weights.get(value, 0) for value in kept))
        if cost is not None:
            self.assertEqual(mending.cost, cost)
        self.check_chains(book, room, weights, mending.chains)
        self.assertEqual(sum(weight for weight, _ in mending.chains), total - mending.cost)
        return mending

    def check_chains(self, book, room, weights, chains):
        self.assertIs(chains.__class__, tuple)
        lead = dict(zip([value for value, _ in book.entries], leads(book)))
        fit = [value for value in lead if 0 <= lead[value] <= room - len(lead)]
        covered = dict.fromkeys(fit, 0)
        for chain in chains:
            self.assertIs(chain.__class__, tuple)
            weight, values = chain
            self.assertGreater(weight, 0)
            self.assertIs(values.__class__, tuple)
            self.assertTrue(values)
            self.assertEqual(list(values), sorted(set(values)))
            for one, other in zip(values, values[1:]):
                self.assertGreater(lead[one], lead[other])
            for value in values:
                covered[value] += weight
        self.assertEqual(sorted(covered), sorted(fit))
        for value in fit:
            if weights.get(value, 0) > 0:
                self.assertGreaterEqual(covered[value], weights[value])

    def test_small_books_against_all_sets(self):
        draw = random.Random(12)
        for turn in range(250):
            many = draw.randint(0, 7)
            room = draw.randint(max(1, many), 12)
            book = random_book(draw, draw.choice(("number", "word")), room, many)
            new_room = draw.randint(max(1, many), 14)
            top = draw.choice((1, 3, 1000000))
            weights = {value: draw.randint(0, top) for value, _ in book.entries if draw.random() < 0.8}
            total = sum(weights.values())
            self.check_mending(book, new_room, weights, total - most_kept(book, new_room, weights))

    def test_strays(self):
        book = Book("number", 4, [(10, 0), (15, 9), (20, 1), (30, 2), (40, 3)])
        self.check_mending(book, 8, {10: 5, 15: 1, 20: 5, 30: 5, 40: 5}, 16)
        self.check_mending(book, 8, {10: 5, 20: 5, 30: 5, 40: 5}, 15)
        self.check_mending(Book("number", 4, [(10, 0), (15, 9)]), 20, {15: 3}, 0)

    def test_without_weights(self):
        book = Book("number", 10, [(10, 12), (20, 2), (30, 4), (40, 9)])
        for weights in ({}, {10: 0, 20: 0}, {99: 7, "x": 5}):
            mending = self.check_mending(book, 4, weights, 0)
            self.assertEqual(mending.chains, ())

    def test_other_weights_are_not_looked_at(self):
        book = Book("word", 4, [("a", 0), ("b", 1)])
        self.check_mending(book, 2, {"a": 2, "b": 3, "c": 100, 5: 7}, 0)
        self.check_mending(Book("word", 9, [("a", 5), ("b", 6)]), 2, {"a": 2, "b": 3, "c": 100}, 5)

    def test_empty_book(self):
        mending = self.check_mending(Book("word", 4), 1, {"a": 5}, 0)
        self.assertEqual((mending.book.entries, mending.kept, mending.chains), ((), (), ()))

    def test_errors_in_their_order(self):
        book = Book("number", 10, [(10, 0), (20, 1), (30, 2)])
        for room in (0, -1, 1000001, None, True):
            check_raises(self, BadRoom, {"room": room}, mend_book, book, room, {})
        for room in (1, 2):
            check_raises(self, NoRoom, {"room": room}, mend_book, book, room, {})
        self.check_mending(book, 3, {10: 1, 20: 1, 30: 1}, 0)
        check_raises(self, BadRoom, {"room": 0}, mend_book, Book("word", 1), 0, {})

    def test_full_book(self):
        draw = random.Random(13)
        book = Book("number", 60, [(k, 60 + 7 * k if k % 2 else k // 2) for k in range(120)])
        for room in (120, 121, 300, 1000000):
            self.check_mending(book, room, {k: draw.randint(0, 1000000) for k in range(120)})

    def test_mending_checks_nothing(self):
        book = Book("word", 1)
        mending = Mending(book, "x", ["b", 1], [(0, ())])
        self.assertIs(mending.book, book)
        self.assertEqual((mending.cost, mending.kept, mending.chains), ("x", ("b", 1), ((0, ()),)))


def check_unchanged_weights(case, book, room, weights):
    before = book.entries
    mending = check_unchanged(case, lambda worths: mend_book(book, room, worths), weights)
    case.assertEqual(book.entries, before)
    return mending


if __name__ == "__main__":
    unittest.main()
