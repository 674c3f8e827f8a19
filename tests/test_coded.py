import random
import unittest

from colonnade.books import Book
from colonnade.chains import Chain, all_chains
from colonnade.coded import Block, CodedColumn, CodedTable, Scene, make_scene
from colonnade.errors import BadChain, BadRow, Full, NoBook, NoColumn, NoTable, Unfit
from colonnade.shapes import Shapes
from colonnade.stretches import Stretches

from tests.asking import SHAPES, rows_for
from tests.helpers import check_raises, check_unchanged

SMALL = Shapes([
    ("sales", [("city", "word", "places"), ("price", "number", ""), ("day", "number", "days")]),
    ("shops", [("town", "word", "places"), ("rent", "number", "")]),
])
BOOKS = {"places": Book("word", 8), "days": Book("number", 8)}
ROWS = {"sales": [("rome", 10, 1), ("oslo", 50, 3), ("rome", 30, 2), ("bonn", 0, 1), ("oslo", -7, 2)],
        "shops": [("paris", 5), ("rome", 6)]}


class ColumnTest(unittest.TestCase):
    def test_each_chain(self):
        dice = random.Random(16)
        for chain in all_chains():
            for many in (1, 2, 7, 40):
                numbers = [dice.randint(0, 5) * 3 for _ in range(many)]
                try:
                    cells = Chain(chain).write(numbers)
                except Unfit:
                    check_raises(self, Unfit, {"chain": chain}, CodedColumn, chain, numbers)
                    continue
                column = check_unchanged(self, CodedColumn, chain, numbers)
                self.assertEqual((column.chain, column.cells, column.many), (chain, tuple(cells), many))
                self.assertEqual((column.least, column.greatest), (min(numbers), max(numbers)))
                self.assertEqual(column.numbers(), numbers)

    def test_example(self):
        column = CodedColumn("runs base lanes", [70, 70, 70, 72, 71])
        self.assertEqual((column.cells, column.least, column.greatest, column.many),
                         ((3, 3, 1, 1, 70, 2, 80), 70, 72, 5))

    def test_later_changes_have_no_effect(self):
        numbers = [5, 3, 9]
        column = CodedColumn("plain", numbers)
        numbers.append(100)
        column.numbers().append(7)
        self.assertEqual((column.numbers(), column.cells, column.greatest), ([5, 3, 9], (5, 3, 9), 9))

    def test_errors(self):
        for chain in ("", "lanes plain", "runs", "plain ", "runs runs plain", "Plain"):
            check_raises(self, BadChain, {"text": chain}, CodedColumn, chain, [-1])
        for numbers in ([-1], [0, 2 ** 29], [5, -7]):
            check_raises(self, Unfit, {"chain": "lanes"}, CodedColumn, "lanes", numbers)
            self.assertEqual(CodedColumn("plain", numbers).numbers(), numbers)
        check_raises(self, Unfit, {"chain": "runs steps lanes"}, CodedColumn, "runs steps lanes", [3, 2])

    def test_many_numbers(self):
        numbers = [at * at for at in range(999)]
        for chain in ("plain", "lanes", "steps lanes", "base pick lanes"):
            self.assertEqual(CodedColumn(chain, numbers).numbers(), numbers)


class BlockTest(unittest.TestCase):
    def test_block(self):
        columns = {"b": CodedColumn("lanes", [3, 1, 2]), "a": CodedColumn("plain", [-5, -5, 4])}
        block = check_unchanged(self, Block, columns)
        kept = dict(columns)
        columns.clear()
        self.assertEqual((block.many, block.names), (3, ("a", "b")))
        self.assertIs(block.column_named("a"), kept["a"])
        box = check_unchanged(self, block.bounds, ["b", "a"])
        self.assertEqual(box, {"a": (-5, 4), "b": (1, 3)})
        self.assertEqual((block.bounds(("a",)), block.bounds([])), ({"a": (-5, 4)}, {}))
        box.clear()
        self.assertEqual(block.bounds(["a", "b"]), {"a": (-5, 4), "b": (1, 3)})

    def test_no_column(self):
        block = Block({"a": CodedColumn("plain", [1])})
        for name in ("b", ""):
            check_raises(self, NoColumn, {"name": name}, block.column_named, name)
        check_raises(self, NoColumn, {"name": "x"}, block.bounds, ["a", "x", "y"])


class TableTest(unittest.TestCase):
    def test_blocks(self):
        blocks = [Block({"a": CodedColumn("steps plain", [1, 5]), "b": CodedColumn("plain", [9, 9])}),
                  Block({"a": CodedColumn("plain", [7]), "b": CodedColumn("runs plain", [8])})]
        seen = Stretches([(1, 3)])
        table = check_unchanged(self, CodedTable, "t", blocks, seen)
        kept = tuple(blocks)
        blocks.pop()
        self.assertEqual((table.name, table.blocks, table.many), ("t", kept, 3))
        self.assertIs(table.seen, seen)
        self.assertEqual((table.numbers_of("a"), table.numbers_of("b")), ([1, 5, 7], [9, 9, 8]))
        check_raises(self, NoColumn, {"name": "c"}, table.numbers_of, "c")

    def test_no_blocks(self):
        table = CodedTable("t", [], Stretches())
        self.assertEqual((table.blocks, table.many, table.numbers_of("anything")), ((), 0, []))


class SceneTest(unittest.TestCase):
    def test_made_by_hand(self):
        shapes = Shapes([("t", [("a", "word", "w"), ("n", "number", "")]), ("u", [("m", "number", "d")])])
        words, days = Book("word", 9, [("x", 3), ("y", 5)]), Book("number", 9, [(100, 2)])
        block = Block({"a": CodedColumn("plain", [5, 3, 5]), "n": CodedColumn("plain", [7, 8, 9])})
        tables = {"z": None, "u": CodedTable("u", [], Stretches()), "t": CodedTable("t", [block], Stretches([(1, 3)]))}
        books = {"z": None, "w": words, "d": days}
        scene = check_unchanged(self, Scene, shapes, books, tables)
        books.clear()
        tables.clear()
        self.assertIs(scene.shapes, shapes)
        self.assertIs(scene.book_named("w"), words)
        self.assertEqual(scene.table_named("t").many, 3)
        self.assertEqual((scene.rows_of("t"), scene.rows_of("u")), ([("x", 8), ("y", 9)], []))
        self.assertEqual(list(scene.all_rows().items()), [("t", [("x", 8), ("y", 9)]), ("u", [])])
        self.assertEqual(list(scene.relations().items()), [("d", "distance"), ("w", "order")])
        for name in ("z", "t", ""):
            check_raises(self, NoBook, {"name": name}, scene.book_named, name)
        for name in ("z", "w", ""):
            check_raises(self, NoTable, {"name": name}, scene.table_named, name)
            check_raises(self, NoTable, {"name": name}, scene.rows_of, name)

    def test_returned_dicts_are_new(self):
        scene = make_scene(SMALL, BOOKS, ROWS)
        for found in (scene.relations(), scene.all_rows(), scene.rows_of("sales"), scene.all_rows()["sales"]):
            found.clear()
        self.assertEqual(scene.all_rows(), ROWS)
        self.assertEqual(len(scene.relations()), 2)


class MakeSceneTest(unittest.TestCase):
    def test_blocks_of_several_sizes(self):
        for size, sizes in ((1, [1] * 5), (2, [2, 2, 1]), (4, [4, 1]), (5, [5]), (999, [5])):
            scene = check_unchanged(self, make_scene, SMALL, BOOKS, ROWS, size=size)
            self.assertEqual([block.many for block in scene.table_named("sales").blocks], sizes)
            self.assertEqual(scene.table_named("sales").seen.pairs, ((0, 5),))
            self.assertEqual(scene.all_rows(), ROWS)
        self.assertEqual([block.many for block in make_scene(SMALL, BOOKS, ROWS).table_named("sales").blocks], [4, 1])
        rows = {"shops": [("a", at) for at in range(999)]}
        scene = make_scene(SMALL, BOOKS, rows, size=999)
        self.assertEqual([block.many for block in scene.table_named("shops").blocks], [999])
        self.assertEqual(scene.rows_of("shops"), rows["shops"])

    def test_tables_without_rows(self):
        for rows in ({}, {"sales": [], "nothing": [(1,)]}):
            scene = make_scene(SMALL, BOOKS, rows)
            self.assertEqual(scene.all_rows(), {"sales": [], "shops": []})
            table = scene.table_named("sales")
            self.assertEqual((table.name, table.blocks, table.many, table.seen.pairs), ("sales", (), 0, ()))
            self.assertEqual(scene.book_named("places").entries, ())
            self.assertEqual(scene.relations(), {"days": "value", "places": "value"})

    def test_newcomers(self):
        scene = make_scene(SMALL, BOOKS, ROWS)
        places, days = Book("word", 8), Book("number", 8)
        for value in ("rome", "oslo", "bonn", "paris"):
            places = places + value
        for value in (1, 3, 2):
            days = days + value
        self.assertEqual(scene.book_named("places").entries, places.entries)
        self.assertEqual(scene.book_named("days").entries, days.entries)
        self.assertEqual(scene.table_named("sales").numbers_of("city"),
                         [places.code_of(row[0]) for row in ROWS["sales"]])
        self.assertEqual(scene.table_named("sales").numbers_of("price"), [10, 50, 30, 0, -7])
        self.assertEqual(scene.relations(), {"days": days.keeps, "places": places.keeps})
        self.assertEqual((BOOKS["places"].entries, BOOKS["days"].entries), ((), ()))

    def test_newcomers_row_by_row_and_column_by_column(self):
        shapes = Shapes([("z", [("b", "word", "w"), ("a", "word", "w")]), ("t", [("c", "word", "w")])])
        rows = {"t": [("first",)], "z": [("n", "d"), ("c", "x")]}
        book = Book("word", 9)
        for value in ("n", "d", "c", "x", "first"):
            book = book + value
        self.assertEqual(make_scene(shapes, {"w": Book("word", 9)}, rows).book_named("w").entries, book.entries)

    def test_books_that_have_some_values(self):
        books = {"places": Book("word", 8, [("rome", 7), ("oslo", 2)]), "days": Book("number", 99, [(1, 5)]), "more": 5}
        scene = make_scene(SMALL, books, ROWS)
        self.assertEqual(scene.book_named("places").entries, (books["places"] + "bonn" + "paris").entries)
        self.assertEqual(scene.book_named("days").entries, (books["days"] + 3 + 2).entries)
        check_raises(self, NoBook, {"name": "more"}, scene.book_named, "more")

    def test_chains(self):
        chains = {"price": "lanes", "city": "pick lanes", "nothing": "runs plain"}
        scene = check_unchanged(self, make_scene, SMALL, BOOKS, ROWS, size=2, chains=chains)
        blocks = scene.table_named("sales").blocks
        # The price of the last row is below 0: lanes do not hold it.
        self.assertEqual([block.column_named("price").chain for block in blocks], ["lanes", "lanes", "plain"])
        self.assertEqual([block.column_named("city").chain for block in blocks], ["pick lanes"] * 3)
        self.assertEqual([block.column_named("day").chain for block in blocks], ["plain"] * 3)
        self.assertEqual(scene.all_rows(), ROWS)

    def test_unseen_places(self):
        unseen = {"sales": [4, 0, 1], "nothing": [7]}
        scene = check_unchanged(self, make_scene, SMALL, BOOKS, ROWS, size=2, unseen=unseen)
        self.assertEqual(scene.table_named("sales").seen.pairs, ((2, 4),))
        self.assertEqual(scene.rows_of("sales"), ROWS["sales"][2:4])
        self.assertEqual((scene.table_named("sales").many, scene.rows_of("shops")), (5, ROWS["shops"]))
        self.assertEqual(len(scene.table_named("sales").numbers_of("price")), 5)
        # Newcomers of unseen rows come into the books, too.
        self.assertIn("oslo", scene.book_named("places"))
        hidden = make_scene(SMALL, BOOKS, ROWS, unseen={"sales": [0, 1, 2, 3, 4]})
        self.assertEqual((hidden.rows_of("sales"), hidden.table_named("sales").many), ([], 5))

    def test_later_changes_have_no_effect(self):
        rows, books = {table: list(own) for table, own in ROWS.items()}, dict(BOOKS)
        unseen, chains = {"sales": [0]}, {"price": "plain"}
        scene = make_scene(SMALL, books, rows, chains=chains, unseen=unseen)
        rows["sales"].append(("x", 1, 1))
        unseen["sales"].append(1)
        for told in (rows, books, unseen, chains):
            told.clear()
        self.assertEqual(scene.rows_of("sales"), ROWS["sales"][1:])

    def test_no_book(self):
        wrong = {"sales": [("rome", 1)]}
        check_raises(self, NoBook, {"name": "days"}, make_scene, SMALL, {}, wrong)
        check_raises(self, NoBook, {"name": "days"}, make_scene, SMALL, {"places": BOOKS["places"]}, wrong)
        check_raises(self, NoBook, {"name": "places"}, make_scene, SMALL, {"days": BOOKS["days"]}, wrong)

    def test_bad_rows(self):
        tiny = {"places": Book("word", 8, [("v" + letter * 2, at) for at, letter in enumerate("abcdefgh")]),
                "days": BOOKS["days"]}
        good = ROWS["sales"][0]
        for row in ((), ("rome", 1), ("rome", 1, 1, 1), (1, "rome", 1), ("rome", "x", 1), ("rome", 1, "x"),
                    ("Rome", 1, 1), ("", 1, 1), ("rome", True, 1), ("rome", 1, False), ("rome", 10 ** 9, 1),
                    ("rome", None, 1), ("ninechars", 1, 1)):
            rows = {"shops": [("bad",)], "sales": [good, good, row, ()]}
            check_raises(self, BadRow, {"table": "sales", "at": 2}, make_scene, SMALL, tiny, rows)
        check_raises(self, BadRow, {"table": "shops", "at": 0}, make_scene, SMALL, BOOKS,
                     {"shops": [("bad",)], "sales": [good]})

    def test_full(self):
        words = ["a" + one + other for one in "abcdefghijklm" for other in "abcdefghij"]
        full = {"places": Book("word", 999, [(word, at) for at, word in enumerate(words[:119])]), "days": BOOKS["days"]}
        rows = {"shops": [("x", 1), ("y", 1)], "sales": [("aaa", 1, 1)]}
        check_raises(self, Full, {"value": "y"}, make_scene, SMALL, full, rows)
        check_raises(self, BadRow, {"table": "shops", "at": 2}, make_scene, SMALL, full,
                     {**rows, "shops": rows["shops"] + [()]})
        last = {"places": Book("word", 1, [("m", 9999999)]), "days": BOOKS["days"]}
        check_raises(self, Full, {"value": "zz"}, make_scene, SMALL, last, {"shops": [("m", 1), ("zz", 1), ("zzz", 1)]})
        self.assertEqual(len(full["places"].entries), 119)

    def test_random_rows(self):
        dice = random.Random(17)
        chains = list(all_chains())
        for _ in range(40):
            rows = rows_for(dice, SHAPES, 12)
            books = {name: Book(SHAPES.domain_of_book(name), dice.randint(1, 30)) for name in SHAPES.books}
            told = {column: dice.choice(chains) for table in SHAPES.tables for column in SHAPES.columns_of(table)}
            unseen = {table: [at for at in range(len(own)) if dice.randint(0, 3) == 0] for table, own in rows.items()}
            scene = make_scene(SHAPES, books, rows, size=dice.randint(1, 5), chains=told, unseen=unseen)
            self.assertEqual(scene.all_rows(), {
                table: [row for at, row in enumerate(own) if at not in unseen[table]] for table, own in rows.items()})


if __name__ == "__main__":
    unittest.main()
