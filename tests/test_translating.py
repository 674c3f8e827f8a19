import random
import unittest

from colonnade.books import Book
from colonnade.filters import Compare, Every, Fixed, Opposite, Pair, Some, Within
from colonnade.translating import on_codes

from tests.asking import SHAPES, book_keeping, rows_for, filter_for
from tests.helpers import check_unchanged, frozen

BOOK = Book("word", 8, [("bonn", 1), ("oslo", 3), ("rome", 6)])


class LeavesTest(unittest.TestCase):
    def check(self, test, text, books=None):
        told = {"city": BOOK, "price": None} if books is None else books
        self.assertEqual(check_unchanged(self, on_codes, test, told).text, text)

    def test_signs_with_a_value_of_the_book(self):
        for sign, text in (("=", "city = 3"), ("<", "city < 3"), ("<=", "city <= 3"), ("<>", "not city = 3"),
                           (">", "not city <= 3"), (">=", "not city < 3")):
            self.check(Compare("city", sign, "oslo"), text)

    def test_signs_with_a_value_that_the_book_lacks(self):
        for sign, text in (("=", "never"), ("<", "city < 6"), ("<=", "city < 6"), ("<>", "not never"),
                           (">", "not city < 6"), (">=", "not city < 6")):
            self.check(Compare("city", sign, "paris"), text)

    def test_signs_with_a_value_beyond_the_last_one(self):
        for sign, text in (("=", "never"), ("<", "always"), ("<=", "always"), ("<>", "not never"),
                           (">", "not always"), (">=", "not always")):
            self.check(Compare("city", sign, "trier"), text)
            self.check(Compare("city", sign, "trier"), text, {"city": Book("word", 3)})

    def test_strays_and_books_that_keep_only_sameness(self):
        book = Book("word", 4, [("a", 1), ("b", 9), ("c", 3)])
        for test, text in ((Compare("city", "<", "b"), "city < 9"), (Compare("city", "<=", "aa"), "city < 9"),
                           (Compare("city", "<=", "b"), "city <= 9"), (Compare("city", ">", "bb"), "not city < 3"),
                           (Within("city", ["a", "b", "c"]), "city in (1, 3, 9)")):
            self.check(test, text, {"city": book})

    def test_within(self):
        self.check(Within("city", ["oslo", "rome", "paris"]), "city in (3, 6)")
        self.check(Within("city", ["rome"]), "city in (6)")
        self.check(Within("city", ["paris", "trier"]), "never")
        self.check(Within("city", ["bonn", "oslo", "rome"]), "city in (1, 3, 6)")

    def test_pair_and_fixed_stay(self):
        self.check(Pair("city", "<", "town"), "city < town", {"city": BOOK, "town": BOOK})
        self.check(Pair("price", ">=", "cost"), "price >= cost")
        self.check(Fixed(True), "always")
        self.check(Fixed(False), "never")

    def test_columns_without_a_book(self):
        for test in (Compare("price", ">", 5), Within("price", [3, 1]), Compare("other", "<>", 5)):
            self.check(test, test.text)
            self.assertIs(on_codes(test, {}).__class__, test.__class__)
        self.check(Compare("city", "<", "oslo"), "city < 'oslo'", {})
        self.check(Compare("city", "<", "oslo"), "city < 'oslo'", {"city": None})

    def test_numbers_with_a_book(self):
        book = Book("number", 9, [(-5, 0), (10, 4), (20, 7)])
        for test, text in ((Compare("price", "<", 10), "price < 4"), (Compare("price", "<", 11), "price < 7"),
                           (Compare("price", "=", 4), "never"), (Compare("price", "<=", -999999999), "price < 0"),
                           (Compare("price", ">", 20), "not price <= 7"), (Compare("price", ">=", 21), "not always"),
                           (Within("price", [0, 4, 7, 20]), "price in (7)")):
            self.check(test, text, {"price": book})


class NestedTest(unittest.TestCase):
    def test_parts(self):
        one, other = Compare("city", "=", "rome"), Compare("price", "<", 4)
        cases = (
            (Every([one, other]), "city = 6 and price < 4"), (Some([one, other]), "city = 6 or price < 4"),
            (Opposite(one), "not city = 6"), (Opposite(Compare("city", "<>", "rome")), "not not city = 6"),
            (Every([Some([one, other]), Opposite(Every([other, one]))]),
             "(city = 6 or price < 4) and not (price < 4 and city = 6)"),
            (Some([Every([one, Fixed(False)]), Compare("city", "=", "x")]), "city = 6 and never or never"),
        )
        for test, text in cases:
            before = frozen(test)
            translated = on_codes(test, {"city": BOOK})
            self.assertEqual(translated.text, text)
            self.assertIs(translated.__class__, test.__class__)
            self.assertEqual(frozen(test), before)

    def test_later_changes_of_the_dict_have_no_effect(self):
        books = {"city": BOOK}
        translated = on_codes(Compare("city", "<", "oslo"), books)
        books.clear()
        self.assertEqual(translated.text, "city < 3")

    def test_same_rows_where_books_keep_order(self):
        dice = random.Random(3)
        for _ in range(300):
            table = dice.choice(SHAPES.tables)
            columns = SHAPES.columns_of(table)
            told = {"number": dice.choice(("order", "distance")), "word": "order"}
            made = {name: book_keeping(dice, SHAPES.domain_of_book(name), told[SHAPES.domain_of_book(name)])
                    for name in SHAPES.books}
            coded = [column for column in columns if SHAPES.book_of(column) and dice.randint(0, 3)]
            like = {SHAPES.book_of(column) for column in coded}
            books = {column: made[SHAPES.book_of(column)] for column in columns if SHAPES.book_of(column) in like}
            test = filter_for(dice, SHAPES, columns)
            translated = on_codes(test, books)
            for row in rows_for(dice, SHAPES, 6)[table]:
                values = dict(zip(columns, row))
                codes = {name: books[name].code_of(value) if name in books else value
                         for name, value in values.items()}
                self.assertIs(translated.holds(codes), test.holds(values), test.text)


if __name__ == "__main__":
    unittest.main()
