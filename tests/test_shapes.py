import unittest

from colonnade.errors import (
    BadDomain, BadName, BadShape, Mismatch, NeedsBook, NoBook, NoColumn, NoTable, Twice,
)
from colonnade.shapes import Shapes

from tests.helpers import check_raises, check_unchanged

GOOD = [
    ("sales", [("city", "word", "places"), ("price", "number", ""), ("day", "number", "days")]),
    ("shops", [("town", "word", "places"), ("opened", "number", "days"), ("rent", "number", "")]),
]


def columns(*names):
    return [(name, "number", "") for name in names]


class AskingTest(unittest.TestCase):
    def test_attributes(self):
        shapes = check_unchanged(self, Shapes, GOOD)
        self.assertEqual((shapes.tables, shapes.books), (("sales", "shops"), ("days", "places")))
        self.assertEqual(Shapes([("b", columns("x")), ("a", columns("y"))]).tables, ("b", "a"))
        self.assertEqual(Shapes([("b", columns("x"))]).books, ())

    def test_methods(self):
        shapes = Shapes(GOOD)
        self.assertEqual(shapes.columns_of("sales"), ("city", "price", "day"))
        self.assertEqual([shapes.table_of(name) for name in ("city", "rent")], ["sales", "shops"])
        self.assertEqual([shapes.domain_of_column(name) for name in ("city", "day")], ["word", "number"])
        self.assertEqual([shapes.book_of(name) for name in ("city", "price", "opened")], ["places", "", "days"])
        self.assertEqual([shapes.domain_of_book(name) for name in ("places", "days")], ["word", "number"])
        self.assertEqual(shapes.columns_with("places"), ("city", "town"))
        self.assertEqual(shapes.columns_with("days"), ("day", "opened"))

    def test_columns_with_follow_the_tables(self):
        shapes = Shapes([("z", [("y", "number", "b"), ("x", "number", "b")]), ("a", [("c", "number", "b")])])
        self.assertEqual(shapes.columns_with("b"), ("y", "x", "c"))

    def test_unknown_names(self):
        shapes = Shapes(GOOD)
        for name in ("", "city", "places", "nothing"):
            check_raises(self, NoTable, {"name": name}, shapes.columns_of, name)
        for name in ("", "sales", "places", "nothing"):
            for call in (shapes.table_of, shapes.domain_of_column, shapes.book_of):
                check_raises(self, NoColumn, {"name": name}, call, name)
        for name in ("", "sales", "city", "nothing"):
            for call in (shapes.domain_of_book, shapes.columns_with):
                check_raises(self, NoBook, {"name": name}, call, name)

    def test_equal_names_of_different_things(self):
        shapes = Shapes([("a", [("a", "number", "a"), ("b", "number", "b")]), ("b", columns("c"))])
        self.assertEqual((shapes.tables, shapes.books), (("a", "b"), ("a", "b")))
        self.assertEqual((shapes.table_of("b"), shapes.book_of("b"), shapes.columns_of("b")), ("a", "b", ("c",)))

    def test_later_changes_have_no_effect(self):
        told = [(table, list(own)) for table, own in GOOD]
        shapes = Shapes(told)
        told[0][1].append(("more", "number", ""))
        told.append(("third", columns("x")))
        self.assertEqual((shapes.tables, shapes.columns_of("sales")), (("sales", "shops"), ("city", "price", "day")))

    def test_bounds_that_are_kept(self):
        many = Shapes([(name, columns(*[name + letter for letter in "abcdef"])) for name in "abcd"])
        self.assertEqual((len(many.tables), len(many.columns_of("d"))), (4, 6))


class ErrorsTest(unittest.TestCase):
    def check(self, kind, attributes, tables):
        check_raises(self, kind, attributes, Shapes, tables)

    def test_numbers_of_tables(self):
        self.check(BadShape, {"table": ""}, [])
        self.check(BadShape, {"table": ""}, [(name, columns("x" + name)) for name in "abcde"])
        self.check(BadShape, {"table": ""}, [("NO", []) for _ in range(5)])

    def test_names_of_tables(self):
        for name in ("", "Sales", "from", "ninechars", "a b", "a1"):
            self.check(BadName, {"name": name}, [("ok", columns("x")), (name, [])])
        self.check(Twice, {"name": "a"}, [("a", columns("x")), ("b", columns("y")), ("a", [])])
        self.check(BadName, {"name": "in"}, [("in", columns("x")), ("in", columns("y"))])

    def test_numbers_of_columns(self):
        self.check(BadShape, {"table": "a"}, [("a", [])])
        self.check(BadShape, {"table": "b"}, [("a", columns("x")), ("b", columns("NO", *"cdefgh"))])

    def test_names_of_columns(self):
        for name in ("", "Price", "sum", "ninechars"):
            self.check(BadName, {"name": name}, [("a", columns("x") + [(name, "", "NO")])])
        self.check(Twice, {"name": "x"}, [("a", columns("x", "y")), ("b", columns("z") + [("x", "no", "NO")])])
        self.check(Twice, {"name": "y"}, [("a", columns("x", "y", "y", "x"))])

    def test_domains_and_books(self):
        for domain in ("", "numbers", "words", "Number"):
            self.check(BadDomain, {"domain": domain}, [("a", [("x", domain, "NO")])])
        for book in ("NO", "group", "ninechars", " "):
            self.check(BadName, {"name": book}, [("a", [("x", "word", book)])])
        self.check(NeedsBook, {"column": "x"}, [("a", [("x", "word", "")])])
        self.check(Mismatch, {"first": "word", "second": "number"},
                   [("a", [("x", "number", "b")]), ("c", columns("z") + [("y", "word", "b")])])
        self.check(Mismatch, {"first": "number", "second": "word"},
                   [("a", [("x", "word", "b"), ("y", "number", "b")])])

    def test_first_error_counts(self):
        # A table is looked at with all its columns before the next one.
        self.check(NeedsBook, {"column": "x"}, [("a", [("x", "word", "")]), ("a", [])])
        self.check(BadName, {"name": "NO"}, [("a", columns("x")), ("NO", [("x", "word", "")])])
        # So is a column before the next one.
        self.check(BadDomain, {"domain": "?"}, [("a", [("x", "?", ""), ("x", "number", "")])])
        self.check(NeedsBook, {"column": "x"}, [("a", [("x", "word", ""), ("NO", "number", "")])])


if __name__ == "__main__":
    unittest.main()
