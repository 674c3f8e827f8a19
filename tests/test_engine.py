import itertools
import random
import unittest

from colonnade.books import Book
from colonnade.coded import Block, CodedColumn, CodedTable, Scene, make_scene
from colonnade.codedly import STAGES, coded_answer, stage_after
from colonnade.engine import Outcome, at_most, unopened_rows, vectors, work
from colonnade.filters import Compare
from colonnade.needs import Needs
from colonnade.plainly import plain_answer
from colonnade.plans import Plan, plain_plan
from colonnade.questions import Question
from colonnade.reading import read_question
from colonnade.shapes import Shapes
from colonnade.stretches import Stretches
from colonnade.translating import on_codes

from tests.asking import SHAPES, openings_for, openings_in_time, question_for, scene_for
from tests.helpers import check_unchanged


def block_rows(scene, table):
    """Return for each block the index, the block, and its seen rows as dicts of codes and numbers."""
    coded = scene.table_named(table)
    found, start = [], 0
    for at, block in enumerate(coded.blocks):
        numbers = {name: block.column_named(name).numbers() for name in block.names}
        rows = [{name: numbers[name][place - start] for name in block.names}
                for place in range(start, start + block.many) if place in coded.seen]
        found.append((at, block, rows))
        start += block.many
    return found


class Told:
    """The work on a plan, told by the words of points 37 to 39 with no vectors and no dicts at hand."""

    def __init__(self, plan, scene):
        self.plan, self.scene, self.question = plan, scene, plan.question
        self.books = {name: scene.book_named(name) for name in self.question.books_named()}
        self.cells, self.looks, self.passed = 0, {name: 0 for name in self.books}, []

    def opened(self, column):
        """Return the stage at which a column is opened, or None."""
        return self.plan.openings.get(self.question.shapes.book_of(column))

    def closed(self, test, stage):
        """Return the books of the columns of a test that hold codes at the stage."""
        shapes = self.question.shapes
        return {name: self.books[shapes.book_of(name)] for name in test.columns_used()
                if self.opened(name) and STAGES.index(self.opened(name)) > STAGES.index(stage)}

    def look(self, column, stage, many):
        if self.opened(column) == stage:
            self.looks[self.question.shapes.book_of(column)] += many

    def named(self, table):
        return [name for name in self.question.columns_named() if self.question.shapes.table_of(name) == table]

    def is_passed(self, table, block):
        for test in self.question.scan_tests(table):
            columns = test.columns_used()
            if self.plan.passing and all(self.opened(name) != "scan" for name in columns):
                if on_codes(test, self.closed(test, "scan")).verdict(block.bounds(columns)) == "never":
                    return True
        return False

    def at_hand(self, table):
        found = []
        for at, block, rows in block_rows(self.scene, table):
            if rows and self.is_passed(table, block):
                self.passed.append((table, at))
            elif rows:
                found.append((block, rows))
        return found

    def entry(self, row, column):
        if self.opened(column) == "scan":
            return self.books[self.question.shapes.book_of(column)].value_of(row[column])
        return row[column]

    def scan(self, table):
        kept = 0
        for block, rows in self.at_hand(table):
            read = []
            tests = [(test, sorted(test.columns_used())) for test in self.question.scan_tests(table)]
            for test, columns in tests + [(None, self.named(table))]:
                for name in [name for name in columns if name not in read]:
                    read.append(name)
                    self.cells += len(block.column_named(name).cells)
                    self.look(name, "scan", len(rows))
                if test:
                    translated = on_codes(test, self.closed(test, "scan"))
                    rows = [row for row in rows if translated.holds({name: self.entry(row, name) for name in columns})]
                if not rows:
                    break
            kept += len(rows)
        for name in self.named(table):
            self.look(name, "join", kept)

    def look_at_results(self, pairs, stage, many):
        for what, column in sorted(set(pairs)):
            if what not in ("count", "distinct"):
                self.look(column, stage, many)

    def outcome(self):
        """Return what is counted; the numbers of joined rows and results come from coded answers."""
        question, shapes = self.question, self.question.shapes
        for table in question.tables:
            self.scan(table)
        rows = self.scene.all_rows()

        def many(tests, groups, most):
            tells = [("count", "")] if groups == [] else [("column", name) for name in groups]
            asked = question.__class__(shapes, question.tables, question.joins, tests, groups, tells, [], most, None)
            openings = {name: self.plan.openings[name] for name in asked.books_named()}
            return coded_answer(asked, self.books, rows, openings)

        scans = [test for table in question.tables for test in question.scan_tests(table)]
        joined = many(scans, [], None)
        chosen = many(question.tests, [], None)
        joined, chosen = (joined[0][0] if joined else 0), (chosen[0][0] if chosen else 0)
        results = chosen
        if question.grouped:
            results = len(many(question.tests, question.groups, None)) if question.groups else min(1, chosen)
        for name in question.columns_named():
            self.look(name, "cross", joined)
            self.look(name, "group", chosen)
        told = results if question.most is None else min(results, question.most)
        self.look_at_results(list(question.tells) + [key[:2] for key in question.sorts], "order", results)
        self.look_at_results(question.tells, "tell", told)
        return self.cells, self.looks, self.passed

    def bounds(self):
        question = self.question
        joined = 1
        for table in question.tables:
            blocks = self.at_hand(table)
            many = sum(len(rows) for block, rows in blocks)
            joined *= many
            for name in self.named(table):
                self.cells += sum(len(block.column_named(name).cells) for block, rows in blocks)
                self.look(name, "scan", many)
                self.look(name, "join", many)
        for name in question.columns_named():
            self.look(name, "cross", joined)
            self.look(name, "group", joined)
        results = min(1, joined) if question.grouped and not question.groups else joined
        self.look_at_results(list(question.tells) + [key[:2] for key in question.sorts], "order", results)
        self.look_at_results(question.tells, "tell", min([results] + [question.most] * (question.most is not None)))
        return self.cells, self.looks


SMALL = Shapes([
    ("sales", [("city", "word", "places"), ("price", "number", ""), ("day", "number", "days")]),
    ("shops", [("town", "word", "places"), ("rent", "number", "")]),
])
PLACES = Book("word", 40, [("bonn", 3), ("oslo", 10), ("paris", 20), ("rome", 30)])
DAYS = Book("number", 40, [(1, 11), (2, 12), (3, 13), (4, 14)])
ROWS = {
    "sales": [("rome", 10, 1), ("oslo", 50, 2), ("rome", 30, 3), ("bonn", 60, 4), ("bonn", 5, 4)],
    "shops": [("rome", 7), ("rome", 8), ("oslo", 9)],
}


def small_scene(**told):
    return make_scene(SMALL, {"places": PLACES, "days": DAYS}, ROWS, **{"size": 2, **told})


def counted(text, scene, *, passing=False, size=8, **openings):
    """Return the rows, the cells read, the looks and the blocks passed by of a plan."""
    outcome = work(Plan(read_question(text, SMALL), openings, passing=passing, size=size), scene)
    return (outcome.rows, outcome.cells_read, outcome.looks, outcome.passed)


class VectorsTest(unittest.TestCase):
    def test_pieces(self):
        for size, pieces in ((1, [[1], [2], [3], [4], [5]]), (2, [[1, 2], [3, 4], [5]]), (3, [[1, 2, 3], [4, 5]]),
                             (4, [[1, 2, 3, 4], [5]]), (5, [[1, 2, 3, 4, 5]]), (6, [[1, 2, 3, 4, 5]]),
                             (999, [[1, 2, 3, 4, 5]])):
            self.assertEqual(list(vectors([1, 2, 3, 4, 5], size)), pieces)

    def test_no_rows_and_one_row(self):
        for size in (1, 2, 999):
            self.assertEqual(list(vectors([], size)), [])
            self.assertEqual(list(vectors(["a"], size)), [["a"]])

    def test_no_rest(self):
        self.assertEqual(list(vectors([1, 2, 3, 4], 2)), [[1, 2], [3, 4]])

    def test_pieces_are_new(self):
        rows = [1, 2]
        for piece in vectors(rows, 2):
            self.assertIs(piece.__class__, list)
            piece.append(3)
        self.assertEqual(rows, [1, 2])

    def test_it_is_a_generator(self):
        made = vectors([1, 2, 3], 2)
        self.assertEqual((next(made), next(made)), ([1, 2], [3]))
        self.assertRaises(StopIteration, next, made)


class CountsByHandTest(unittest.TestCase):
    """Two blocks of two sales, one of one; one block of two shops, one of one; all written plainly."""

    def test_example_of_the_document(self):
        shapes = Shapes([('sales', [('city', 'word', 'places'), ('price', 'number', '')])])
        rows = [('rome', 10), ('oslo', 50), ('rome', 30)]
        scene = make_scene(shapes, {'places': Book('word', 8)}, {'sales': rows}, size=2)
        question = read_question('from sales where price < 40 tell city order price', shapes)
        outcome = work(Plan(question, {"places": "tell"}), scene)
        self.assertEqual((outcome.rows, outcome.cells_read, outcome.looks, outcome.passed),
                         ([('rome',), ('rome',)], 6, {'places': 2}, []))
        self.assertIs(outcome.__class__, Outcome)

    def test_opened_at_each_stage(self):
        text = "from sales where price < 40 tell city, day order price"
        rows = [("bonn", 4), ("rome", 1), ("rome", 3)]
        # Prices of all blocks, 5 cells; one row is alive in each block: 5 + 5 cells more.
        for stage in STAGES:
            self.assertEqual(counted(text, small_scene(), places=stage, days="tell"),
                             (rows, 15, {"days": 3, "places": 3}, []))

    def test_scan_looks_at_all_rows_alive_when_the_column_is_read(self):
        text = "from sales where city = 'rome' and price < 20 tell day"
        self.assertEqual(counted(text, small_scene(), places="scan", days="scan"),
                         ([(1,)], 11, {"days": 1, "places": 5}, []))
        # The other way round the city is read for one row in each block.
        text = "from sales where price < 20 and city = 'rome' tell day"
        self.assertEqual(counted(text, small_scene(), places="scan", days="scan"),
                         ([(1,)], 5 + 3 + 2, {"days": 1, "places": 2}, []))

    def test_a_block_is_finished_when_no_row_is_alive(self):
        text = "from sales where price > 100 tell city, day"
        self.assertEqual(counted(text, small_scene(), places="scan", days="join"),
                         ([], 5, {"days": 0, "places": 0}, []))

    def test_columns_are_read_once(self):
        text = "from sales where price < 40 and price > 20 and price < 35 tell price"
        self.assertEqual(counted(text, small_scene()), ([(30,)], 5, {}, []))

    def test_join(self):
        text = "from sales join shops on city = town tell rent, city, town"
        rows = [(7, "rome", "rome"), (8, "rome", "rome"), (9, "oslo", "oslo"), (7, "rome", "rome"), (8, "rome", "rome")]
        for stage, looks in (("scan", 8), ("join", 8), ("cross", 10), ("group", 10), ("order", 10), ("tell", 10)):
            self.assertEqual(counted(text, small_scene(), places=stage), (rows, 5 + 6, {"places": looks}, []))

    def test_cross(self):
        text = "from sales join shops on city = town where price < rent tell day, town first 1"
        for stage, looks in (("scan", 0), ("join", 5), ("cross", 5), ("group", 0), ("order", 0), ("tell", 0)):
            self.assertEqual(counted(text, small_scene(), places="scan", days=stage)[2]["days"],
                             5 if stage == "scan" else looks)

    def test_group_and_order(self):
        text = "from sales group city tell city, least day, greatest day, count order city first 2"
        rows = [("bonn", 4, 4, 2), ("oslo", 2, 2, 1)]
        for stage, looks in (("scan", 5), ("join", 5), ("cross", 5), ("group", 5), ("order", 3), ("tell", 2)):
            self.assertEqual(counted(text, small_scene(), places=stage, days="scan"),
                             (rows, 10, {"days": 5, "places": looks}, []))
        # The least and the greatest day are two pairs of one column.
        for stage, looks in (("scan", 5), ("group", 5), ("order", 6), ("tell", 4)):
            self.assertEqual(counted(text, small_scene(), places="scan", days=stage)[2], {"days": looks, "places": 5})

    def test_pairs_count_once_and_distinct_not_at_all(self):
        text = "from sales group city tell sum day, city, sum day, city order distinct day, sum day down, city"
        rows = [(8, "bonn", 8, "bonn"), (2, "oslo", 2, "oslo"), (4, "rome", 4, "rome")]
        for stage in ("order", "tell"):
            self.assertEqual(counted(text, small_scene(), places=stage, days=stage),
                             (rows, 10, {"days": 3, "places": 3}, []))

    def test_tell_looks_at_rows_of_the_answer_only(self):
        text = "from sales tell city, day order price first 2"
        self.assertEqual(counted(text, small_scene(), places="tell", days="order"),
                         ([("bonn", 4), ("rome", 1)], 15, {"days": 5, "places": 2}, []))
        # A key that is no item is not looked at for the answer.
        text = "from sales tell price order city first 2"
        self.assertEqual(counted(text, small_scene(), places="tell"),
                         ([(60,), (5,)], 10, {"places": 0}, []))
        self.assertEqual(counted(text, small_scene(), places="order")[2], {"places": 5})

    def test_no_column_at_all(self):
        self.assertEqual(counted("from sales tell count", small_scene()), ([(5,)], 0, {}, []))
        self.assertEqual(counted("from sales tell count", small_scene(unseen={"sales": [0, 1, 2, 3, 4]})),
                         ([], 0, {}, []))

    def test_blocks_without_seen_rows(self):
        scene = small_scene(unseen={"sales": [2, 3, 4, 1]})
        self.assertEqual(counted("from sales tell city", scene, places="scan"), ([("rome",)], 2, {"places": 1}, []))
        self.assertEqual(counted("from sales where price < 20 tell city", scene, passing=True, places="tell"),
                         ([("rome",)], 4, {"places": 1}, []))

    def test_blocks_that_are_passed_by(self):
        text = "from sales where price > 35 tell city"
        scene = small_scene()
        self.assertEqual(counted(text, scene, passing=True, places="tell"),
                         ([("oslo",), ("bonn",)], 8, {"places": 2}, [("sales", 2)]))
        self.assertEqual(counted(text, scene, passing=False, places="tell"),
                         ([("oslo",), ("bonn",)], 9, {"places": 2}, []))
        # On codes a book that is closed at "scan" lets blocks be passed by; one that is opened does not.
        text = "from sales where city = 'oslo' tell price"
        self.assertEqual(counted(text, scene, passing=True, places="join"),
                         ([(50,)], 4 + 2, {"places": 1}, [("sales", 2)]))
        self.assertEqual(counted(text, scene, passing=True, places="scan"), ([(50,)], 7, {"places": 5}, []))
        # One such test is enough, wherever it stands; the other one is not looked at.
        text = "from sales where city = 'rome' and price < 20 tell price"
        self.assertEqual(counted(text, scene, passing=True, places="scan"),
                         ([(10,)], 2 + 2 + 1, {"places": 3}, [("sales", 1)]))
        text = "from sales join shops on city = town where rent > 8 and price < 20 tell price"
        self.assertEqual(counted(text, scene, passing=True, places="scan")[3], [("sales", 1), ("shops", 0)])

    def test_a_block_without_seen_rows_is_not_passed_by(self):
        scene = small_scene(unseen={"sales": [0, 1]})
        self.assertEqual(counted("from sales where price > 999 tell price", scene, passing=True),
                         ([], 0, {}, [("sales", 1), ("sales", 2)]))

    def test_tests_of_several_tables_pass_nothing_by(self):
        text = "from sales join shops on city = town where price < rent tell price"
        self.assertEqual(counted(text, small_scene(), passing=True, places="tell")[3], [])

    def test_cells_of_chains_are_counted(self):
        scene = small_scene(size=5, chains={"city": "runs pick lanes", "price": "lanes"})
        cells = {name: len(scene.table_named("sales").blocks[0].column_named(name).cells) for name in ("city", "price")}
        self.assertEqual(counted("from sales where price > 0 tell city", scene, places="tell")[1], sum(cells.values()))

    def test_tables_without_blocks(self):
        scene = make_scene(SMALL, {"places": PLACES, "days": DAYS}, {"shops": ROWS["shops"]})
        for text in ("from sales tell city, price", "from sales where price < 5 tell sum day",
                     "from shops join sales on town = city tell price"):
            question = read_question(text, SMALL)
            for stage in STAGES:
                plan = Plan(question, {name: stage for name in question.books_named()})
                outcome = work(plan, scene)
                self.assertEqual((outcome.rows, outcome.passed), ([], []))
                self.assertEqual(outcome.cells_read, 3 if "shops" in text else 0)


class LostColumnsTest(unittest.TestCase):
    """Tests whose translations name fewer columns than they do themselves; all written plainly."""

    def test_a_book_without_greater_values(self):
        shapes = Shapes([("t", [("c", "number", "p"), ("d", "number", "")])])
        book = Book("number", 9, [(3, 1), (4, 2)])
        scene = make_scene(shapes, {"p": book}, {"t": [(3, 5), (4, 6)]})
        for tests, tell, cells in (([Compare("c", ">", 7)], ("column", "d"), 2),
                                   ([Compare("c", "<", 7), Compare("d", "=", 0)], ("count", ""), 4)):
            question = Question(shapes, ["t"], [], tests, [], [tell], [], None, None)
            for stage in STAGES:
                outcome = work(Plan(question, {"p": stage}, passing=False), scene)
                self.assertEqual((outcome.rows, outcome.cells_read, outcome.passed), ([], cells, []))
                self.assertEqual(outcome.looks, {"p": 2 if stage == "scan" else 0})

    def test_each_sign_and_choices(self):
        # The book has no value of these tests, so that each of them is always or never so on codes.
        for test in ("city = 'pisa'", "city > 'turin'", "city >= 'turin'", "city in ('pisa', 'turin')",
                     "not city <> 'pisa'", "not city <= 'turin'", "not city < 'turin'",
                     "city = 'pisa' or city = 'turin'"):
            text = f"from sales where ({test}) and price > 0 tell day"
            self.assertEqual(counted(text, small_scene(), places="tell", days="tell"),
                             ([], 5, {"days": 0, "places": 0}, []), test)
        for test in ("city <> 'pisa'", "city <= 'turin'", "city < 'turin'", "not city in ('pisa', 'turin')",
                     "city < 'turin' or city = 'pisa'"):
            text = f"from sales where ({test}) and price > 99 tell day"
            self.assertEqual(counted(text, small_scene(), places="tell", days="tell"),
                             ([], 10, {"days": 0, "places": 0}, []), test)

    def test_parts_of_a_test(self):
        # Both columns of the test are read before it is tried, and none behind it.
        for test in ("city = 'pisa' or price > 99", "price > 99 or city = 'pisa'",
                     "not (city <> 'pisa' or price < 99)"):
            self.assertEqual(counted(f"from sales where {test} tell day", small_scene(), places="tell", days="tell"),
                             ([], 5 + 5, {"days": 0, "places": 0}, []), test)

    def test_no_cell_is_read_twice(self):
        text = "from sales where city < 'turin' and city <> 'pisa' and price > 35 tell city"
        self.assertEqual(counted(text, small_scene(), places="tell"),
                         ([("oslo",), ("bonn",)], 10, {"places": 2}, []))

    def test_looks_at_another_column_of_the_test(self):
        # The day is opened at the scan and looked at for all rows, the city is not looked at.
        text = "from sales where city = 'pisa' or day > 9 tell price"
        self.assertEqual(counted(text, small_scene(), places="tell", days="scan"),
                         ([], 10, {"days": 5, "places": 0}, []))

    def test_each_block_and_no_block_without_seen_rows(self):
        text = "from sales where city = 'pisa' tell price"
        for told, cells in (({"unseen": {"sales": [0, 1]}}, 3), ({"size": 1}, 5), ({"size": 999}, 5)):
            self.assertEqual(counted(text, small_scene(**told), places="join"), ([], cells, {"places": 0}, []))

    def test_passed_by_and_not(self):
        # A test that is never so on codes lets all blocks be passed by, one that is always so none.
        text = "from sales where city = 'pisa' and price > 0 tell day"
        self.assertEqual(counted(text, small_scene(), passing=True, places="tell", days="tell"),
                         ([], 0, {"days": 0, "places": 0}, [("sales", 0), ("sales", 1), ("sales", 2)]))
        text = "from sales where city <> 'pisa' and price > 30 and price < 50 tell day"
        self.assertEqual(counted(text, small_scene(), passing=True, places="tell", days="tell"),
                         ([], 2 * 4, {"days": 0, "places": 0}, [("sales", 2)]))

    def test_cells_of_chains(self):
        scene = small_scene(size=5, chains={"city": "runs pick lanes"})
        cells = len(scene.table_named("sales").blocks[0].column_named("city").cells)
        text = "from sales where city = 'pisa' tell price"
        self.assertEqual(counted(text, scene, places="tell"), ([], cells, {"places": 0}, []))

    def test_with_a_join(self):
        text = "from sales join shops on city = town where town = 'pisa' tell day"
        self.assertEqual(counted(text, small_scene(), places="tell", days="tell"),
                         ([], 5 + 5 + 3, {"days": 0, "places": 0}, []))


class WorkTest(unittest.TestCase):
    def check(self, plan, scene):
        """Check a plan against the coded answer and the told counts, and return its outcome."""
        outcome = work(plan, scene)
        question = plan.question
        books = {name: scene.book_named(name) for name in question.books_named()}
        self.assertEqual(outcome.rows, coded_answer(question, books, scene.all_rows(), plan.openings))
        told = Told(plan, scene).outcome()
        self.assertEqual((outcome.cells_read, outcome.looks, outcome.passed), told)
        self.assertEqual(list(outcome.looks), sorted(outcome.looks))
        bounds = at_most(plan, scene)
        self.assertEqual(bounds, Told(plan, scene).bounds())
        self.assertEqual(list(bounds[1]), list(outcome.looks))
        self.assertGreaterEqual(bounds[0], outcome.cells_read)
        for book, looks in outcome.looks.items():
            self.assertGreaterEqual(bounds[1][book], looks)
        return outcome

    def test_random_plans(self):
        dice = random.Random(31)
        for _ in range(250):
            question, scene = question_for(dice), scene_for(dice)
            openings = openings_for(dice, question)
            plan = Plan(question, openings, passing=dice.randint(0, 1) == 1, size=dice.choice((1, 2, 3, 8, 999)))
            self.check(plan, scene)

    def test_random_plans_with_books_that_lack_values(self):
        dice = random.Random(38)
        lost = 0
        for _ in range(250):
            question, scene = question_for(dice), scene_for(dice, lean=True)
            plan = Plan(question, openings_for(dice, question), passing=dice.randint(0, 3) == 0)
            self.check(plan, scene)
            told = Told(plan, scene)
            for test in [test for table in question.tables for test in question.scan_tests(table)]:
                translated = on_codes(test, told.closed(test, "scan"))
                lost += translated.columns_used() != test.columns_used()
        self.assertGreater(lost, 20)

    def test_openings_in_time_on_books_that_lack_values(self):
        dice = random.Random(39)
        for _ in range(120):
            question, scene = question_for(dice), scene_for(dice, lean=True)
            openings = openings_in_time(dice, question, scene.relations())
            outcome = self.check(Plan(question, openings, passing=dice.randint(0, 1) == 1), scene)
            self.assertEqual(outcome.rows, plain_answer(question, scene.all_rows()))

    def test_openings_in_time_give_the_plain_answer(self):
        dice = random.Random(32)
        for _ in range(120):
            question, scene = question_for(dice), scene_for(dice)
            openings = openings_in_time(dice, question, scene.relations())
            outcome = self.check(Plan(question, openings, passing=True), scene)
            self.assertEqual(outcome.rows, plain_answer(question, scene.all_rows()))

    def test_openings_too_late_may_change_the_answer(self):
        book = Book("number", 1, [(1, 9), (2, 3), (5, 4)])
        scene = make_scene(Shapes([("t", [("a", "number", "b")])]), {"b": book}, {"t": [(1,), (2,), (5,)]})
        question = read_question("from t tell a order a", scene.shapes)
        self.assertEqual(work(Plan(question, {"b": "order"}), scene).rows, [(1,), (2,), (5,)])
        self.assertEqual(work(Plan(question, {"b": "tell"}), scene).rows, [(2,), (5,), (1,)])

    def test_sizes_change_nothing(self):
        dice = random.Random(33)
        for _ in range(40):
            question, scene = question_for(dice), scene_for(dice, most=6)
            openings, passing = openings_for(dice, question), dice.randint(0, 1) == 1
            found = []
            for size in (1, 2, 3, 7, 999):
                plan = Plan(question, openings, passing=passing, size=size)
                outcome = work(plan, scene)
                found.append((outcome.rows, outcome.cells_read, outcome.looks, outcome.passed,
                              unopened_rows(plan, scene), at_most(plan, scene)))
            self.assertEqual(found[1:], found[:1] * 4)

    def test_layouts_and_chains_change_no_row(self):
        dice = random.Random(34)
        for _ in range(40):
            question, scene = question_for(dice), scene_for(dice, most=6)
            books = {name: scene.book_named(name) for name in SHAPES.books}
            plan = Plan(question, openings_for(dice, question))
            rows = work(plan, scene).rows
            for size, chains in itertools.product((1, 3, 999), ({}, {"city": "runs lanes", "price": "steps plain"})):
                other = make_scene(SHAPES, books, scene.all_rows(), size=size, chains=chains)
                self.assertEqual(work(plan, other).rows, rows)

    def test_passing_changes_no_answer_and_saves_cells(self):
        dice = random.Random(35)
        passed = 0
        for _ in range(100):
            question, scene = question_for(dice), scene_for(dice)
            openings = openings_for(dice, question)
            without = work(Plan(question, openings, passing=False), scene)
            outcome = work(Plan(question, openings, passing=True), scene)
            self.assertEqual((outcome.rows, without.passed), (without.rows, []))
            self.assertLessEqual(outcome.cells_read, without.cells_read)
            passed += len(outcome.passed)
        self.assertGreater(passed, 20)

    def test_later_openings_that_never_cost_more_looks(self):
        dice = random.Random(36)
        for _ in range(150):
            question, scene = question_for(dice), scene_for(dice)
            openings = openings_in_time(dice, question, scene.relations())
            for book, stage in openings.items():
                later = {**openings, book: stage_after(stage)}
                if stage in ("scan", "cross", "order") and Needs(question).in_time(later, scene.relations()):
                    before = work(Plan(question, openings), scene).looks
                    self.assertLessEqual(work(Plan(question, later), scene).looks[book], before[book])

    def test_later_openings_that_cost_more_looks(self):
        text = "from sales join shops on city = town tell town"
        self.assertLess(counted(text, small_scene(), places="join")[2]["places"],
                        counted(text, small_scene(), places="cross")[2]["places"])
        text = "from sales tell least day, greatest day, sum day"
        shown = [counted(text, small_scene(unseen={"sales": [1, 2, 3, 4]}), days=stage)[2] for stage in ("group", "order")]
        self.assertEqual(shown, [{"days": 1}, {"days": 3}])

    def test_arguments_stay_and_results_are_new(self):
        question = read_question("from sales where price > 35 tell city, day order day", SMALL)
        scene = small_scene()
        plan = Plan(question, {"places": "tell", "days": "order"})
        for call in (work, unopened_rows, at_most):
            check_unchanged(self, call, plan, scene)
        outcome = work(plan, scene)
        for found in (outcome.rows, outcome.looks, outcome.passed, unopened_rows(plan, scene), at_most(plan, scene)[1]):
            found.clear()
        self.assertEqual(work(plan, scene).rows, [("oslo", 2), ("bonn", 4)])
        self.assertEqual(work(plan, scene).looks, {"days": 2, "places": 2})
        self.assertEqual(work(plan, scene).passed, [("sales", 2)])

    def test_kinds(self):
        outcome = work(plain_plan(read_question("from sales tell city, price", SMALL)), small_scene())
        self.assertEqual([outcome.rows.__class__, outcome.rows[0].__class__, outcome.cells_read.__class__,
                          outcome.looks.__class__, outcome.passed.__class__], [list, tuple, int, dict, list])
        bound = at_most(plain_plan(read_question("from sales tell city", SMALL)), small_scene())
        self.assertEqual([bound.__class__, bound[0].__class__, bound[1].__class__], [tuple, int, dict])


class UnopenedTest(unittest.TestCase):
    def unopened(self, text, **openings):
        return unopened_rows(Plan(read_question(text, SMALL), openings), small_scene())

    def test_codes_that_are_left(self):
        text = "from sales tell city, price, day order price first 2"
        self.assertEqual(self.unopened(text, places="tell", days="tell"), [(3, 5, 14), (30, 10, 11)])
        self.assertEqual(self.unopened(text, places="order", days="tell"), [("bonn", 5, 14), ("rome", 10, 11)])
        self.assertEqual(self.unopened(text, places="tell", days="scan"), [(3, 5, 4), (30, 10, 1)])
        self.assertEqual(self.unopened(text, places="scan", days="join"), [("bonn", 5, 4), ("rome", 10, 1)])

    def test_results_of_groups(self):
        text = "from sales group city tell city, count, distinct day, least day, greatest day, sum day order city"
        self.assertEqual(self.unopened(text, places="tell", days="tell"),
                         [(3, 2, 1, 14, 14, 28), (10, 1, 1, 12, 12, 12), (30, 2, 2, 11, 13, 24)])
        self.assertEqual(self.unopened(text, places="tell", days="order"),
                         [(3, 2, 1, 4, 4, 8), (10, 1, 1, 2, 2, 2), (30, 2, 2, 1, 3, 4)])

    def test_random_plans(self):
        dice = random.Random(37)
        for _ in range(120):
            question, scene = question_for(dice), scene_for(dice)
            plan = Plan(question, openings_for(dice, question))
            books = [SHAPES.book_of(column) if column else "" for what, column in question.tells]
            opened = []
            for row in unopened_rows(plan, scene):
                entries = []
                for (what, column), book, entry in zip(question.tells, books, row):
                    at_tell = book and plan.openings[book] == "tell"
                    if at_tell and what in ("column", "least", "greatest"):
                        entry = scene.book_named(book).value_of(entry)
                    entries.append(None if at_tell and what == "sum" else entry)
                opened.append(tuple(entries))
            answer = [tuple([None if what == "sum" and book and plan.openings[book] == "tell" else entry
                             for (what, column), book, entry in zip(question.tells, books, row)])
                      for row in work(plan, scene).rows]
            self.assertEqual(opened, answer)


class BoundsTest(unittest.TestCase):
    def bound(self, text, scene=None, *, passing=True, **openings):
        return at_most(Plan(read_question(text, SMALL), openings, passing=passing), scene or small_scene())

    def test_each_stage(self):
        text = "from sales join shops on city = town where rent > 8 tell city, town first 4"
        # One block of the shops is passed by: 5 sales and 1 shop are left; city, town and rent are named.
        for stage, looks in (("scan", 6), ("join", 6), ("cross", 10), ("group", 10), ("order", 10), ("tell", 8)):
            self.assertEqual(self.bound(text, places=stage), (5 + 2, {"places": looks}))
        for stage, looks in (("scan", 8), ("join", 8), ("cross", 30), ("group", 30), ("order", 30), ("tell", 8)):
            self.assertEqual(self.bound(text, places=stage, passing=False), (5 + 6, {"places": looks}))

    def test_groups(self):
        for stage, looks in (("group", 5), ("order", 2), ("tell", 1)):
            self.assertEqual(self.bound("from sales tell least day order sum day", days=stage), (5, {"days": looks}))
        for stage, looks in (("group", 5), ("order", 10), ("tell", 5)):
            self.assertEqual(self.bound("from sales group city tell least day order sum day", places="tell", days=stage),
                             (10, {"days": looks, "places": 0}))

    def test_first(self):
        for most, looks in ((1, 1), (4, 4), (5, 5), (6, 5), (999, 5)):
            self.assertEqual(self.bound(f"from sales tell day first {most}", days="tell"), (5, {"days": looks}))
            self.assertEqual(self.bound(f"from sales tell day first {most}", days="order"), (5, {"days": 5}))
        self.assertEqual(self.bound("from sales tell greatest day first 3", days="tell"), (5, {"days": 1}))

    def test_no_rows_at_all(self):
        scene = small_scene(unseen={"sales": [0, 1, 2, 3, 4]})
        for text in ("from sales tell greatest day first 3", "from sales tell day"):
            for stage in STAGES:
                self.assertEqual(self.bound(text, scene, days=stage), (0, {"days": 0}))
        text = "from sales join shops on city = town tell rent"
        for stage, looks in (("scan", 3), ("join", 3), ("cross", 0), ("group", 0)):
            self.assertEqual(self.bound(text, scene, places=stage), (6, {"places": looks}))

    def test_seen_rows_count_and_all_cells(self):
        scene = small_scene(unseen={"sales": [1, 2, 3]})
        self.assertEqual(self.bound("from sales tell city, day", scene, places="scan", days="tell"),
                         (6, {"days": 2, "places": 2}))

    def test_cells_are_not_read(self):
        class Sealed(CodedColumn):
            def numbers(self):
                raise AssertionError("cells were read")

        columns = {"city": Sealed("plain", [3, 30]), "price": Sealed("plain", [5, 9]), "day": Sealed("plain", [11, 12])}
        tables = {"sales": CodedTable("sales", [Block(columns)], Stretches([(0, 2)])),
                  "shops": CodedTable("shops", [], Stretches())}
        scene = Scene(SMALL, {"places": PLACES, "days": DAYS}, tables)
        self.assertEqual(self.bound("from sales where price < 7 tell city", scene, places="tell"), (4, {"places": 2}))


if __name__ == "__main__":
    unittest.main()
