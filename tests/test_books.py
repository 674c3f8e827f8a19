import itertools
import random
import unittest

from colonnade import errors
from colonnade.books import Book
from colonnade.relations import kept_by

from tests.helpers import check_raises, check_unchanged




def newcomer_plainly(book, value):
    """Point 13, word by word."""
    sought = [entry for entry in book.entries if book.keeps in ("order", "distance", "value") or entry[1] < book.room]
    below = [entry for entry in sought if entry[0] < value]
    above = [entry for entry in sought if entry[0] > value]
    p = max(below)[1] if below else -1
    q = min(above)[1] if above else book.room
    if q - p >= 2:
        return p + (q - p) // 2
    return max([book.room] + [code + 1 for _, code in book.entries])


class MakingTest(unittest.TestCase):
    def test_attributes(self):
        entries = [(5, 2), (1, 0), (9, 7)]
        book = check_unchanged(self, Book, "number", 8, entries)
        self.assertEqual((book.domain, book.room, book.entries), ("number", 8, ((1, 0), (5, 2), (9, 7))))
        entries.append((10, 9))
        self.assertEqual(book.entries, ((1, 0), (5, 2), (9, 7)))
        self.assertEqual(Book("number", 8, ((5, 2), (1, 0))).entries, ((1, 0), (5, 2)))
        self.assertEqual(Book("word", 1000000).entries, ())
        self.assertEqual(Book("word", 1, ()).room, 1)
        self.assertEqual((Book.MOST, book.MOST), (120, 120))

    def test_errors_in_their_order(self):
        bad = [("x", -1)]
        check_raises(self, errors.BadDomain, {"domain": "words"}, Book, "words", 0, bad)
        for room in (0, -1, 1000001, True, None, "8"):
            check_raises(self, errors.BadRoom, {"room": room}, Book, "number", room, bad)
        for value in ("x", True, False, None, 1000000000, "X", ""):
            check_raises(self, errors.BadValue, {"value": value}, Book, "number", 8, [(1, 1), (value, -1)])
        check_raises(self, errors.BadValue, {"value": 5}, Book, "word", 8, [(5, 1)])
        for code in (-1, 10000000, True, None, "1"):
            check_raises(self, errors.BadCode, {"code": code}, Book, "number", 8, [(1, 2), (1, code)])
        check_raises(self, errors.Twice, {"name": 1}, Book, "number", 8, [(1, 2), (1, 3)])
        check_raises(self, errors.Twice, {"name": 3}, Book, "number", 8, [(1, 2), (3, 2)])
        check_raises(self, errors.Twice, {"name": 1}, Book, "number", 8, [(1, 2), (5, 1), (1, 3), ("x", 1)])
        check_raises(self, errors.BadBook, {"value": 5}, Book, "number", 8, [(9, 1), (5, 2), (4, 3), (6, 5)])
        check_raises(self, errors.BadBook, {"value": "b"}, Book, "word", 8, [("b", 0), ("a", 5)])

    def test_exactly_120_entries_and_more(self):
        entries = [(k, k) for k in range(120)]
        self.assertEqual(len(Book("number", 200, entries).entries), 120)
        self.assertEqual(len(Book("number", 200, tuple(entries)).entries), 120)
        check_raises(self, errors.Full, {"value": -7}, Book, "number", 500, entries + [(-7, 200), (-8, 201)])
        check_raises(self, errors.Twice, {"name": -8}, Book, "number", 500, entries + [(-7, 200), (-8, 200)])
        check_raises(self, errors.BadValue, {"value": "x"}, Book, "number", 500, entries + [(-7, 200), ("x", 200)])

    def test_strays(self):
        book = Book("number", 5, [(1, 0), (2, 9), (3, 4), (4, 5), (0, 9999999)])
        self.assertEqual((book.strays, book.placed), ((0, 2, 4), (0, 4)))
        self.assertEqual(book.keeps, "same")
        self.assertEqual((Book("number", 5).strays, Book("number", 5).placed), ((), ()))
        book = Book("number", 5, [(1, 5), (2, 4)])
        self.assertEqual((book.strays, book.placed), ((1,), (4,)))

    def test_keeps(self):
        cases = (
            (Book("number", 9), "value"), (Book("word", 9), "value"), (Book("word", 9, [("a", 1)]), "order"),
            (Book("number", 9, [(4, 4), (5, 5)]), "value"), (Book("number", 9, [(4, 0), (5, 1)]), "distance"),
            (Book("number", 9, [(4, 0), (6, 1)]), "order"), (Book("number", 2, [(4, 5), (5, 3)]), "same"),
            (Book("number", 2, [(4, 1), (5, 3)]), "order"), (Book("word", 1, [("a", 9), ("b", 3)]), "same"),
        )
        for book, kept in cases:
            self.assertEqual(book.keeps, kept)

    def test_counted(self):
        book = Book.counted(-2, 2, 100)
        self.assertEqual((book.domain, book.room), ("number", 100))
        self.assertEqual(book.entries, ((-2, 0), (-1, 1), (0, 2), (1, 3), (2, 4)))
        self.assertEqual(Book.counted(7, 7, 1).entries, ((7, 0),))
        self.assertEqual(Book.counted(0, 119, 120).keeps, "value")
        self.assertEqual(Book.counted(5, 8, 2).strays, (7, 8))
        self.assertEqual(len(Book.counted(1, 120, 1).entries), 120)
        for room in (0, 1000001):
            check_raises(self, errors.BadRoom, {"room": room}, Book.counted, 1, 2, room)


class AskingTest(unittest.TestCase):
    book = Book("number", 10, [(10, 2), (20, 4), (30, 12), (1, 11)])

    def test_code_of(self):
        self.assertEqual([self.book.code_of(value) for value in (1, 10, 20, 30)], [11, 2, 4, 12])
        for value in (0, 11, "x", True, None):
            check_raises(self, errors.NoValue, {"value": value}, self.book.code_of, value)

    def test_value_of(self):
        self.assertEqual([self.book.value_of(code) for code in (2, 4, 11, 12)], [10, 20, 1, 30])
        self.assertEqual(Book.counted(7, 9, 5).value_of(0), 7)
        self.assertEqual(Book("word", 5, [("b", 9999999)]).value_of(9999999), "b")
        for code in (0, 1, 3, -1, 99):
            check_raises(self, errors.NoCode, {"code": code}, self.book.value_of, code)
        check_raises(self, errors.NoCode, {"code": True}, Book.counted(0, 5, 9).value_of, True)

    def test_contains(self):
        for value, held in ((1, True), (10, True), (2, False), (11, False), ("a", False), (True, False), (None, False)):
            self.assertIs(value in self.book, held)

    def test_bound(self):
        cases = ((-999999999, 11), (1, 11), (2, 2), (10, 2), (11, 4), (20, 4), (21, 12), (30, 12), (31, None))
        for value, code in cases:
            self.assertEqual(self.book.bound(value), code)
        self.assertIsNone(Book("word", 3).bound("a"))
        for value in ("x", True, None, 1000000000):
            check_raises(self, errors.BadValue, {"value": value}, self.book.bound, value)

    def test_bound_tells_values_below(self):
        book = Book("number", 50, [(k * k, 7 * k) for k in range(7)] + [(40, 77)])
        for value in range(-1, 42):
            bound = book.bound(value)
            below = [known for known, code in book.entries if bound is None or code < bound]
            self.assertEqual(below, [known for known, _ in book.entries if known < value])

    def test_base(self):
        self.assertEqual(self.book.base(), 1 - 11)
        self.assertEqual(Book.counted(7, 9, 5).base(), 7)
        self.assertEqual(Book("number", 5).base(), 0)
        self.assertEqual(Book("word", 5, [("b", 3)]).base(), 0)
        self.assertEqual(Book("number", 5, [(-4, 3)]).base(), -7)


class NewcomersTest(unittest.TestCase):
    def test_example(self):
        book = Book("word", 8) + "rome" + "oslo" + "paris" + "pisa"
        self.assertEqual(book.entries, (("oslo", 1), ("paris", 2), ("pisa", 8), ("rome", 3)))
        self.assertEqual(book.keeps, "same")

    def test_where_newcomers_go(self):
        order = Book("number", 10, [(10, 3), (20, 6), (30, 7)])
        for value, code in ((5, 1), (15, 4), (25, 10), (35, 8)):
            self.assertEqual((order + value).code_of(value), code)
        strays = Book("number", 10, [(10, 3), (20, 6), (30, 15)])
        for value, code in ((25, 10), (35, 16), (15, 4)):
            self.assertEqual((strays + value).code_of(value), code)
        apart = Book("number", 10, [(10, 3), (15, 20), (20, 5), (30, 12)])
        self.assertEqual(apart.keeps, "same")
        for value, code in ((16, 4), (12, 4), (25, 7), (35, 7), (5, 1)):
            self.assertEqual((apart + value).code_of(value), code)
        tight = Book("number", 3, [(10, 0), (20, 1), (30, 2)])
        for value in (5, 15, 25, 35):
            self.assertEqual((tight + value).code_of(value), 3)
        self.assertEqual(((tight + 5) + 15).code_of(15), 4)
        self.assertEqual((Book("word", 1) + "m").entries, (("m", 0),))
        self.assertEqual((Book("word", 1000000) + "m").entries, (("m", 499999),))

    def test_order_is_kept_just_as_told(self):
        draw = random.Random(3)
        for room in (1, 2, 3, 5, 9, 40):
            for _ in range(60):
                book = Book("number", room)
                for _ in range(9):
                    value = draw.randrange(30)
                    before = book.entries
                    grown = book + value
                    self.assertEqual(book.entries, before)
                    if value in book:
                        self.assertEqual((grown.domain, grown.room, grown.entries), ("number", room, before))
                        self.assertIsNot(grown, book)
                        continue
                    self.assertEqual(grown.code_of(value), newcomer_plainly(book, value))
                    self.assertEqual(grown.room, room)
                    self.assertEqual(sorted([*before, (value, grown.code_of(value))]), list(grown.entries))
                    book = grown

    def test_all_small_books(self):
        for room in (1, 2, 4):
            for codes in itertools.permutations(range(6), 3):
                try:
                    book = Book("number", room, list(zip((10, 20, 30), codes)))
                except errors.BadBook:
                    continue
                for value in (5, 15, 25, 35):
                    grown = book + value
                    self.assertEqual(grown.code_of(value), newcomer_plainly(book, value))
                    self.assertEqual(grown.keeps, kept_by(list(grown.entries)))

    def test_refused_values(self):
        book = Book("number", 9, [(1, 1)])
        for value in ("x", True, None, 1000000000, ""):
            check_raises(self, errors.BadValue, {"value": value}, lambda worth: book + worth, value)
        check_raises(self, errors.BadValue, {"value": 5}, lambda worth: Book("word", 3) + worth, 5)

    def test_full(self):
        book = Book.counted(0, 119, 1000)
        self.assertEqual((book + 5).entries, book.entries)
        check_raises(self, errors.Full, {"value": 120}, lambda worth: book + worth, 120)
        check_raises(self, errors.BadValue, {"value": "x"}, lambda worth: book + worth, "x")
        grown = Book.counted(0, 118, 1000) + 500
        self.assertEqual(len(grown.entries), 120)
        last = Book("number", 1, [(5, 0), (6, 9999998)]) + 7
        self.assertEqual(last.code_of(7), 9999999)
        check_raises(self, errors.Full, {"value": 8}, lambda worth: last + worth, 8)
        self.assertEqual((last + 7).entries, last.entries)

    def test_words(self):
        book = Book("word", 50)
        for word in ("m", "zzzzzzzz", "a", "aa", "from"):
            book = book + word
        self.assertEqual([value for value, _ in book.entries], ["a", "aa", "from", "m", "zzzzzzzz"])
        self.assertEqual(book.keeps, "order")


if __name__ == "__main__":
    unittest.main()
