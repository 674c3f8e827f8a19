import unittest

from colonnade.books import Book
from colonnade.bridges import Bridge
from colonnade.errors import Mismatch, NoCode

from tests.helpers import check_raises


class BridgesTest(unittest.TestCase):
    first = Book("word", 9, [("a", 1), ("b", 3), ("c", 20), ("d", 5)])
    second = Book("word", 4, [("b", 0), ("c", 1), ("d", 8), ("e", 3)])

    def test_pairs(self):
        bridge = Bridge(self.first, self.second)
        self.assertEqual(bridge.pairs, ((3, 0), (5, 8), (20, 1)))
        self.assertEqual(bridge.back().pairs, ((0, 3), (1, 20), (8, 5)))
        self.assertIs(bridge.back().__class__, Bridge)
        self.assertEqual(bridge.back().back().pairs, bridge.pairs)
        self.assertEqual(Bridge(Book("word", 1), self.first).pairs, ())

    def test_codes(self):
        bridge = Bridge(self.first, self.second)
        self.assertEqual([bridge(code) for code in (3, 20, 5)], [0, 1, 8])
        self.assertIsNone(bridge(1))
        self.assertIsNone(bridge.back()(3))
        self.assertEqual(bridge.back()(8), 5)
        for code in (0, 2, 4, 8, -1, 99):
            check_raises(self, NoCode, {"code": code}, bridge, code)
        check_raises(self, NoCode, {"code": 20}, bridge.back(), 20)

    def test_mismatch(self):
        number = Book("number", 3)
        check_raises(self, Mismatch, {"first": "word", "second": "number"}, Bridge, self.first, number)
        check_raises(self, Mismatch, {"first": "number", "second": "word"}, Bridge, number, self.first)

    def test_keeps(self):
        book = Book.counted(5, 9, 50)
        cases = (
            (Book.counted(5, 7, 3), "value"), (Book.counted(6, 9, 9), "distance"),
            (Book("number", 50, [(5, 0), (7, 9)]), "order"), (Book("number", 1, [(5, 8), (7, 3)]), "same"),
            (Book("number", 9, [(1, 1)]), "value"), (Book("number", 9), "value"),
            (Book("number", 9, [(7, 7)]), "distance"),
        )
        for other, kept in cases:
            self.assertEqual(Bridge(book, other).keeps, kept)
        self.assertEqual(Bridge(self.first, self.second).keeps, "same")
        words = Book("word", 9, [("a", 2), ("b", 3)])
        self.assertEqual(Bridge(words, words).keeps, "value")
        self.assertEqual(Bridge(words, Book("word", 9, [("a", 4), ("b", 5)])).keeps, "distance")


if __name__ == "__main__":
    unittest.main()
