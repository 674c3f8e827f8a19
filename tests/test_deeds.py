import itertools
import random
import unittest

from colonnade.books import Book
from colonnade.carries import Carry
from colonnade.chains import Chain
from colonnade.coded import fitting_column
from colonnade.deeds import (
    arrange, cut, gather, let_go, perform, perform_all, rebook, recode, sort_by_codes, sort_table,
)
from colonnade.engine import unopened_rows
from colonnade.errors import (
    BadChain, BadMoments, BadName, BadOrder, BadSizes, NoBlock, NoBook, NoCarry, NoCode, NoColumn, NotKept, NotSeen,
    NoTable, Unfit, Unlike,
)
from colonnade.needs import Needs
from colonnade.plainly import plain_answer
from colonnade.plans import Plan
from colonnade.reading import read_question
from colonnade.relations import is_enough
from colonnade.rules import best_plan
from colonnade.shapes import Shapes
from colonnade.stores import Store

from tests.asking import openings_for, question_for
from tests.helpers import check_raises, check_unchanged, frozen
from tests.histories import (
    SHOP, Model, check_like, commit_for, deed_for, moments_for, other_book_for, shop, shop_books, sizes_for, state_of,
    step_for, store_behind, whole_rows,
)

CODES = {"places": {0: 0, 1: 1, 3: 3}, "money": {3: 3, 5: 5, 6: 6}}


class DeedTest(unittest.TestCase):
    def do(self, store, call, *arguments):
        """Do a deed, check that its arguments stay, and return the carry."""
        before = frozen(list(arguments))
        carry = call(store, *arguments)
        self.assertEqual(before, frozen(list(arguments)))
        self.assertIs(carry.__class__, Carry)
        return carry

    def check_carry(self, carry, *, places=None, codes=None, moments=(0, 1, 2, 3)):
        same = {"sales": (0, 1, 2), "towns": (0,)}
        self.assertEqual(carry.places, {**same, **(places or {})})
        self.assertEqual(carry.codes, {**CODES, **(codes or {})})
        self.assertEqual(carry.moments, moments)

    def refuse(self, store, kind, told, call, *arguments):
        before = state_of(store)
        check_raises(self, kind, told, call, store, *arguments)
        self.assertEqual(state_of(store), before)


class RecodeTest(DeedTest):
    def test_column_of_one_block(self):
        store = shop()
        before = state_of(store)
        carry = self.do(store, recode, "sales", 0, "price", "base lanes")
        self.check_carry(carry)
        self.assertEqual(store.layout("sales"), [
            {"city": ("plain", [3, 1]), "price": ("base lanes", Chain("base lanes").write([3, 5])), "many": ("plain", [1, 2])},
            {"city": ("plain", [0]), "price": ("plain", [3]), "many": ("plain", [3])},
        ])
        self.assertEqual(state_of(store)[3:], before[3:])
        recode(store, "sales", 0, "price", "plain")
        self.assertEqual(state_of(store), before)

    def test_errors(self):
        store = shop()
        store.commit({"sales": [("rome", -2, -7)]})
        wrong = ("lanes plain", "lanes", "runs", "")
        self.refuse(store, NoTable, {"name": "city"}, recode, "city", 9, "towns", "x")
        for at in (3, -1, 99, True, False):
            self.refuse(store, NoBlock, {"at": at}, recode, "sales", at, "town", "x")
        for column in ("town", "rent", "", "sales"):
            self.refuse(store, NoColumn, {"name": column}, recode, "sales", 2, column, "x")
        for chain in (wrong[0], wrong[2], wrong[3], "lanes "):
            self.refuse(store, BadChain, {"text": chain}, recode, "sales", 2, "many", chain)
        for chain in ("lanes", "runs lanes", "steps lanes"):
            self.refuse(store, Unfit, {"chain": chain}, recode, "sales", 2, "many", chain)
        self.refuse(Store(SHOP, shop_books()), NoBlock, {"at": 0}, recode, "sales", 0, "many", "plain")


class CutTest(DeedTest):
    def test_cut(self):
        store = shop()
        before = state_of(store)
        carry = self.do(store, cut, "sales", [1, 2])
        self.check_carry(carry)
        self.assertEqual(store.layout("sales"), [
            {"city": ("plain", [3]), "price": ("plain", [3]), "many": ("plain", [1])},
            {"city": ("plain", [1, 0]), "price": ("plain", [5, 3]), "many": ("plain", [2, 3])},
        ])
        self.assertEqual((store.sizes("sales"), state_of(store)[4:]), ([1, 2], before[4:]))
        self.do(store, cut, "sales", [3], {"city": "pick lanes", "many": "steps plain"})
        self.assertEqual(store.layout("sales"), [{"city": ("pick lanes", Chain("pick lanes").write([3, 1, 0])),
                                                  "price": ("plain", [3, 5, 3]), "many": ("steps plain", [1, 1, 1])}])
        # A chain that is not told is not kept.
        self.do(store, cut, "sales", [2, 1], {})
        self.assertEqual(state_of(store), before)

    def test_chains_that_do_not_fit(self):
        store = shop()
        store.commit({"sales": [("rome", 5, -4)]})
        self.do(store, cut, "sales", [1, 3], {"many": "lanes", "price": "steps lanes"})
        self.assertEqual([{name: chain for name, (chain, cells) in block.items()} for block in store.layout("sales")],
                         [{"city": "plain", "price": "steps lanes", "many": "lanes"},
                          {"city": "plain", "price": "plain", "many": "plain"}])

    def test_tables_without_places(self):
        store = Store(SHOP, shop_books())
        carry = self.do(store, cut, "towns", [], {"rent": "lanes"})
        self.assertEqual((carry.places, store.sizes("towns")), ({"sales": (), "towns": ()}, []))
        for sizes in ([1], [0], [0, 0]):
            self.refuse(store, BadSizes, {"table": "towns"}, cut, "towns", sizes)

    def test_errors(self):
        store = shop()
        told = {"town": "x", "many": "y"}
        self.refuse(store, NoTable, {"name": "city"}, cut, "city", [9], told)
        for sizes in ([], [3, 0], [0, 3], [4], [2], [1, 1], [2, 2], [4, -1], [1, 1, True], [-1, 4], [3, 10 ** 9]):
            self.refuse(store, BadSizes, {"table": "sales"}, cut, "sales", sizes, told)
        self.refuse(store, NoColumn, {"name": "town"}, cut, "sales", [3], told)
        self.refuse(store, BadChain, {"text": "y"}, cut, "sales", [3], {"many": "y", "town": "x"})
        self.refuse(store, NoColumn, {"name": ""}, cut, "sales", [3], {"many": "plain", "": "plain", "city": "z"})
        self.refuse(store, BadChain, {"text": "z"}, cut, "sales", [3], {"many": "plain", "city": "z", "": "plain"})


class RebookTest(DeedTest):
    def test_codes_that_change(self):
        store = shop()
        cut(store, "sales", [1, 1, 1], {"city": "base lanes", "price": "runs plain", "many": "lanes"})
        other = Book("word", 5, [("bonn", 7), ("oslo", 1), ("rome", 4)])
        carry = self.do(store, rebook, "places", other)
        self.check_carry(carry, codes={"places": {0: 7, 1: 1, 3: 4}})
        self.assertIs(store.book_named("places"), other)
        self.assertEqual([block["city"] for block in store.layout("sales")],
                         [("base lanes", Chain("base lanes").write([code])) for code in (4, 1, 7)])
        self.assertEqual(store.layout("towns"), [{"town": ("plain", [4]), "rent": ("plain", [6])}])
        self.assertEqual(whole_rows(store, "sales"), [("rome", 5, 1), ("oslo", 7, 2), ("bonn", 5, 3)])
        self.assertEqual(store.rows_of("sales", 1), [("rome", 5, 1), ("oslo", 7, 2)])

    def test_only_columns_of_blocks_in_which_a_code_changes_are_written_anew(self):
        store = shop()
        before = {(table, at, name): block.column_named(name) for table in SHOP.tables
                  for at, block in enumerate(store.scene_at().table_named(table).blocks) for name in block.names}
        self.do(store, rebook, "places", Book("word", 8, [("bonn", 0), ("oslo", 2), ("rome", 3)]))
        changed = [key for key, column in before.items()
                   if store.scene_at().table_named(key[0]).blocks[key[1]].column_named(key[2]) is not column]
        self.assertEqual(changed, [("sales", 0, "city")])
        self.assertEqual(store.layout("sales")[0]["city"], ("plain", [3, 2]))
        same = Book("word", 99, store.book_named("places").entries)
        carry = self.do(store, rebook, "places", same)
        self.assertEqual((carry.keeps_codes("places"), store.book_named("places").room), ("value", 99))

    def test_chains_that_do_not_fit_any_more(self):
        store = shop()
        recode(store, "sales", 0, "price", "steps lanes")
        self.do(store, rebook, "money", Book("number", 9, [(5, 9), (7, 4), (9, 5)]))
        self.assertEqual([block["price"] for block in store.layout("sales")], [("plain", [9, 4]), ("plain", [9])])
        self.assertEqual(store.layout("towns")[0]["rent"], ("plain", [5]))

    def test_errors(self):
        store = shop()
        entries = store.book_named("places").entries
        self.refuse(store, NoBook, {"name": "sales"}, rebook, "sales", Book("number", 5))
        for other in (Book("number", 5), Book("word", 9), Book("word", 9, entries[1:]),
                      Book("word", 9, [*entries, ("z", 8)]), Book("word", 9, [*entries[:2], ("z", 8)])):
            self.refuse(store, Unlike, {"book": "places"}, rebook, "places", other)
        empty = Store(SHOP, shop_books())
        self.refuse(empty, Unlike, {"book": "places"}, rebook, "places", Book("number", 5))
        self.assertEqual(rebook(empty, "places", Book("word", 5)).codes["places"], {})


class ArrangeTest(DeedTest):
    def test_arrange(self):
        store = shop()
        recode(store, "sales", 0, "city", "lanes")
        recode(store, "sales", 1, "city", "base plain")
        carry = self.do(store, arrange, "sales", [2, 0, 1])
        self.check_carry(carry, places={"sales": (1, 2, 0)})
        self.assertEqual(carry.keeps_places("sales"), "same")
        self.assertEqual(store.layout("sales"), [
            {"city": ("lanes", Chain("lanes").write([0, 3])), "price": ("plain", [3, 3]), "many": ("plain", [3, 1])},
            {"city": ("base plain", [1, 0]), "price": ("plain", [5]), "many": ("plain", [2])},
        ])
        self.assertEqual(store.toggles("sales"), [(1, ((1, 3),)), (2, ((1, 2),)), (3, ((0, 1),))])
        self.assertEqual((store.rows_of("sales"), store.rows_of("sales", 1)),
                         ([("bonn", 5, 3), ("oslo", 7, 2)], [("rome", 5, 1), ("oslo", 7, 2)]))
        self.assertEqual((store.sizes("sales"), store.toggles("towns")), ([2, 1], [(1, ((0, 1),)), (3, ((0, 1),))]))

    def test_chains_that_do_not_fit_any_more(self):
        store = shop()
        store.commit({"sales": [("rome", 5, -4)]})
        recode(store, "sales", 0, "many", "lanes")
        self.do(store, arrange, "sales", [3, 1, 2, 0])
        self.assertEqual([block["many"] for block in store.layout("sales")],
                         [("plain", [-4, 2]), ("plain", [3]), ("plain", [1])])

    def test_errors(self):
        store = shop()
        self.refuse(store, NoTable, {"name": "city"}, arrange, "city", [5])
        for order in ([], [0, 1], [0, 1, 2, 3], [0, 1, 1], [0, 1, 3], [-1, 0, 1], [0, 1, 2, 2], [False, True, 2], [1, 2, 3],
                      ["0", 1, 2]):
            self.refuse(store, BadOrder, {"table": "sales"}, arrange, "sales", order)
        carry = self.do(Store(SHOP, shop_books()), arrange, "sales", [])
        self.assertEqual(carry.places["sales"], ())


class SortTest(DeedTest):
    def test_by_values(self):
        for columns, order in (((), [0, 1, 2]), (("city",), [2, 1, 0]), (("price",), [0, 2, 1]), (("many",), [0, 1, 2]),
                               (("price", "city"), [2, 0, 1]), (("price", "many"), [0, 2, 1]), (("city", "city"), [2, 1, 0])):
            store = shop()
            rows = whole_rows(store, "sales")
            carry = self.do(store, sort_table, "sales", *columns)
            self.assertEqual(whole_rows(store, "sales"), [rows[at] for at in order])
            self.check_carry(carry, places={"sales": tuple([order.index(at) for at in range(3)])})
            self.assertEqual(store.sizes("sales"), [2, 1])

    def test_by_codes(self):
        store = shop()
        for word in ("bonna", "bonnaa"):
            store.commit({"sales": [(word, 1, 1)]})
        # The newcomers between 0 and 1 are strays: bonna is 8, bonnaa 9.
        self.assertEqual(store.book_named("places").strays, ("bonna", "bonnaa"))
        store.commit({"sales": [("bonnb", 1, 1)]})
        rebook(store, "places", Book("word", 4, [("bonn", 9), ("bonna", 1), ("bonnaa", 8), ("bonnb", 2), ("oslo", 3),
                                                 ("rome", 7)]))
        self.do(store, sort_by_codes, "sales", "city")
        self.assertEqual([row[0] for row in whole_rows(store, "sales")], ["bonna", "bonnb", "oslo", "rome", "bonnaa", "bonn"])
        self.do(store, sort_table, "sales", "city")
        self.assertEqual([row[0] for row in whole_rows(store, "sales")], ["bonn", "bonna", "bonnaa", "bonnb", "oslo", "rome"])
        self.do(store, sort_by_codes, "sales", "many", "city")
        self.assertEqual([row[2] for row in whole_rows(store, "sales")], [1, 1, 1, 1, 2, 3])
        self.assertEqual([row[0] for row in whole_rows(store, "sales")][:4], ["bonna", "bonnb", "rome", "bonnaa"])

    def test_both_do_the_same_if_books_keep_order(self):
        dice = random.Random(61)
        differ = 0
        for _ in range(80):
            store = store_behind(dice, 4)
            table = dice.choice(SHOP.tables)
            columns = dice.sample(SHOP.columns_of(table), dice.randint(1, 2))
            rows = whole_rows(store, table)
            books = [SHOP.book_of(column) for column in columns if SHOP.book_of(column)]
            kept = all(is_enough(store.book_named(book).keeps, "order") for book in books)
            found = []
            for call in (sort_table, sort_by_codes):
                with self.assertRaises(ZeroDivisionError):
                    with store.trial():
                        carry = self.do(store, call, table, *columns)
                        found.append((carry.places, state_of(store)))
                        at = [SHOP.columns_of(table).index(column) for column in columns]
                        if call == sort_table:
                            self.assertEqual(whole_rows(store, table),
                                             sorted(rows, key=lambda row: [row[column] for column in at]))
                        raise ZeroDivisionError()
            if kept:
                self.assertEqual(*found)
            differ += found[0] != found[1]
        self.assertGreater(differ, 2)

    def test_errors(self):
        store = shop()
        for call in (sort_table, sort_by_codes):
            self.refuse(store, NoTable, {"name": "city"}, call, "city", "x")
            self.refuse(store, NoColumn, {"name": "town"}, call, "sales", "city", "town", "x")
            self.refuse(store, NoColumn, {"name": ""}, call, "sales", "")
            self.refuse(store, NoTable, {"name": "city"}, call, "city")
            self.refuse(Store(SHOP, shop_books()), NoColumn, {"name": "town"}, call, "sales", "many", "town", "rent")


class GatherTest(DeedTest):
    def test_dead_places(self):
        store = shop()
        recode(store, "sales", 0, "city", "lanes")
        let_go(store, [2, 3])
        carry = self.do(store, gather, "sales", 2)
        self.check_carry(carry, places={"sales": (None, 0, 1)}, moments=(2, 3))
        self.assertEqual(store.layout("sales"), [{"city": ("plain", [1, 0]), "price": ("plain", [5, 3]),
                                                  "many": ("plain", [2, 3])}])
        self.assertEqual(store.toggles("sales"), [(2, ((0, 1),)), (3, ((1, 2),))])
        self.assertEqual((store.rows_of("sales", 2), store.rows_of("sales")),
                         ([("oslo", 7, 2)], [("oslo", 7, 2), ("bonn", 5, 3)]))
        self.assertEqual(store.toggles("towns"), [(2, ((0, 1),)), (3, ((0, 1),))])

    def test_no_dead_places(self):
        for size, sizes in ((1, [1, 1, 1]), (2, [2, 1]), (3, [3]), (999, [3])):
            store = shop()
            recode(store, "sales", 0, "city", "lanes")
            toggles = store.toggles("sales")
            carry = self.do(store, gather, "sales", size)
            self.check_carry(carry)
            self.assertEqual((store.sizes("sales"), store.toggles("sales")), (sizes, toggles))
            self.assertEqual([chain for block in store.layout("sales") for chain, cells in block.values()],
                             ["plain"] * 3 * len(sizes))

    def test_all_dead(self):
        store = shop()
        let_go(store, [3])
        carry = self.do(store, gather, "towns", 5)
        self.check_carry(carry, places={"towns": (None,)}, moments=(3,))
        self.assertEqual((store.layout("towns"), store.sizes("towns"), store.toggles("towns")), ([], [], []))
        self.assertEqual(store.commit({"towns": [("rome", 1)]}), 4)
        self.assertEqual((store.rows_of("towns"), store.toggles("towns")), ([("rome", 1)], [(4, ((0, 1),))]))

    def test_errors(self):
        store = shop()
        self.refuse(store, NoTable, {"name": "city"}, gather, "city", 0)
        for size in (0, 1000, -1, True):
            self.refuse(store, BadSizes, {"table": "sales"}, gather, "sales", size)


class LetGoTest(DeedTest):
    def test_let_go(self):
        store = shop()
        layout = store.layout("sales")
        carry = self.do(store, let_go, [1, 3])
        self.check_carry(carry, moments=(1, 3))
        self.assertEqual((store.moment, store.kept, store.layout("sales")), (3, (1, 3), layout))
        self.assertEqual(store.toggles("sales"), [(1, ((0, 2),)), (3, ((0, 1), (2, 3)))])
        check_raises(self, NotKept, {"moment": 2}, store.rows_of, "sales", 2)
        check_raises(self, NotKept, {"moment": 0}, store.restore, 0)
        self.assertEqual((store.commit(), store.kept), (4, (1, 3, 4)))
        self.do(store, let_go, [4])
        self.assertEqual((store.toggles("sales"), store.toggles("towns")), ([(4, ((1, 3),))], []))

    def test_errors(self):
        store = shop()
        for moments in ([], [0, 1, 2], [0], [3, 3], [3, 2], [0, 0, 3], [1, 0, 3], [0, 3, 4], [-1, 3], [3, 4], [True, 3],
                        [0, 3, 999]):
            self.refuse(store, BadMoments, {"moments": moments}, let_go, moments)
        let_go(store, [1, 3])
        self.refuse(store, BadMoments, {"moments": [2, 3]}, let_go, [2, 3])
        self.assertEqual(let_go(store, [1, 3]).moments, (1, 3))

    def test_the_error_holds_a_list_of_its_own(self):
        moments = [0]
        try:
            let_go(shop(), moments)
        except BadMoments as error:
            moments.append(3)
            self.assertEqual(error.moments, [0])

    def test_each_moment_counts(self):
        # For each moment that is let go there is a question whose answer is that as of no kept one.
        store = Store(Shapes([("t", [("a", "number", "")])]), {})
        for number in range(1, 5):
            store.commit({"t": [(number,)]}, {"t": [number - 2]} if number > 1 else {})
        question = read_question("from t tell a", store.shapes)
        answers = {moment: plain_answer(question, {"t": store.rows_of("t", moment)}) for moment in store.kept}
        for kept in ([0, 4], [1, 2, 4], [4]):
            for moment in store.kept:
                self.assertEqual(answers[moment] in [answers[other] for other in kept], moment in kept)


class PerformTest(DeedTest):
    steps = [
        ("recode", "sales", 0, "price", "lanes"), ("cut", "sales", [1, 2]), ("cut", "towns", [1], {"rent": "lanes"}),
        ("rebook", "places", Book("word", 9, [("bonn", 1), ("oslo", 2), ("rome", 5)])), ("arrange", "sales", [1, 2, 0]),
        ("sort", "sales", "city", "many"), ("sort codes", "sales", "price"), ("sort", "towns"), ("gather", "towns", 3),
        ("let go", [1, 3]),
    ]
    calls = {"recode": recode, "cut": cut, "rebook": rebook, "arrange": arrange, "sort": sort_table,
             "sort codes": sort_by_codes, "gather": gather, "let go": let_go}

    def test_each_deed(self):
        named, called = shop(), shop()
        for step in self.steps:
            carry = self.do(named, perform, *step)
            other = self.calls[step[0]](called, *step[1:])
            self.assertEqual((carry.places, carry.codes, carry.moments), (other.places, other.codes, other.moments))
            self.assertEqual(state_of(named), state_of(called))

    def test_names_that_are_no_deed(self):
        store = shop()
        for name in ("", "Cut", "commit", "restore", "sort_table", "let_go", "sort  codes", "letgo"):
            self.refuse(store, BadName, {"name": name}, perform, name, "x", 1)
        self.refuse(store, NoTable, {"name": "x"}, perform, "cut", "x", [1])

    def test_perform_all(self):
        store, other = shop(), shop()
        commit = ("commit", {"sales": [("york", 1, 1)]}, {"sales": [1]})
        steps = [*self.steps[:2], commit, *self.steps[4:6], ("restore", 1), ("commit", None, None), ("gather", "sales", 2)]
        steps[3] = ("arrange", "sales", [3, 1, 2, 0])
        before = frozen(steps)
        done = perform_all(store, steps)
        self.assertEqual(frozen(steps), before)
        self.assertIs(done.__class__, list)
        told = []
        for step in steps:
            if step[0] == "commit":
                told.append(other.commit(step[1], step[2]))
            else:
                told.append(other.restore(step[1]) if step[0] == "restore" else perform(other, *step))
        self.assertEqual([frozen(one) for one in done], [frozen(one) for one in told])
        self.assertEqual((done[2], done[5], done[6]), (4, 5, 6))
        self.assertEqual(state_of(store), state_of(other))
        self.assertEqual(perform_all(store, []), [])

    def test_an_error_in_the_midst(self):
        for wrong, kind, told in (
            (("nothing", 1), BadName, {"name": "nothing"}), (("cut", "sales", [1]), BadSizes, {"table": "sales"}),
            (("restore", 99), NotKept, {"moment": 99}), (("commit", {}, {"sales": [0]}), NotSeen, {"table": "sales", "place": 0}),
            (("let go", [0]), BadMoments, {"moments": [0]}), (("",), BadName, {"name": ""}),
        ):
            for at in range(4):
                store = shop()
                other = Book("number", 30, [(1, 19), (5, 20), (7, 21), (9, 22)])
                steps = [("commit", {"sales": [("york", 1, 1)]}, None), ("rebook", "money", other), ("sort", "towns", "town")]
                self.refuse(store, kind, told, perform_all, [*steps[:at], wrong, ("worse",), *steps[at:]])
                self.assertEqual(store.commit(), 4)


class UndoneTest(DeedTest):
    def undo(self, store, step, before):
        """Undo a deed by deeds of its own family, with what was before."""
        layouts, sizes, books = before
        if step[0] == "recode":
            table, at, column = step[1:4]
            return recode(store, table, at, column, layouts[table][at][column][0])
        if step[0] == "cut":
            table = step[1]
            cut(store, table, sizes[table])
            for at, block in enumerate(layouts[table]):
                for column, (chain, cells) in block.items():
                    recode(store, table, at, column, chain)
            return None
        if step[0] == "rebook":
            return rebook(store, step[1], books[step[1]])
        order = step[2]
        return arrange(store, step[1], [order.index(at) for at in range(len(order))])

    def test_all_blocks_have_the_same_cells_as_before(self):
        dice = random.Random(62)
        undone = {}
        for _ in range(250):
            store = store_behind(dice, 4)
            step = deed_for(dice, store)
            before = ({table: store.layout(table) for table in SHOP.tables}, {table: store.sizes(table) for table in SHOP.tables},
                      {name: store.book_named(name) for name in SHOP.books})
            state = state_of(store)
            if step[0] not in ("recode", "cut", "rebook", "arrange"):
                continue
            perform(store, *step)
            # All chains must fit on the way.
            fit = step[0] in ("recode", "cut") or all(
                block[column][0] == before[0][table][at][column][0] for table in SHOP.tables
                for at, block in enumerate(store.layout(table)) for column in block)
            if fit:
                self.undo(store, step, before)
                self.assertEqual(state_of(store), state)
                undone[step[0]] = undone.get(step[0], 0) + 1
        self.assertEqual(sorted(undone), ["arrange", "cut", "rebook", "recode"])
        self.assertGreater(min(undone.values()), 8)


class HistoryTest(DeedTest):
    """What stands behind a deed, on drawn histories."""

    def told_carry(self, store, before, step):
        """Return the places, codes and moments of a deed, told by its words."""
        rows, books, kept, sizes = before
        places = {table: list(range(len(rows[table]))) for table in SHOP.tables}
        codes = {name: {code: code for value, code in book.entries} for name, book in books.items()}
        if step[0] == "rebook":
            codes[step[1]] = {code: step[2].code_of(value) for value, code in books[step[1]].entries}
        if step[0] == "arrange":
            places[step[1]] = [step[2].index(at) for at in places[step[1]]]
        if step[0] in ("sort", "sort codes"):
            columns = [SHOP.columns_of(step[1]).index(column) for column in step[2:]]
            names = [SHOP.book_of(column) for column in step[2:]]
            keys = [[books[name].code_of(row[at]) if name and step[0] == "sort codes" else row[at]
                     for at, name in zip(columns, names)] for row in rows[step[1]]]
            order = sorted(places[step[1]], key=lambda at: keys[at])
            places[step[1]] = [order.index(at) for at in places[step[1]]]
        if step[0] == "gather":
            living = sorted({place for moment in kept for place in store.places_of(step[1], moment).each_place()})
            places[step[1]] = [living.index(at) if at in living else None for at in places[step[1]]]
        return places, codes, tuple(step[1]) if step[0] == "let go" else kept

    def check_places(self, store, carry, before):
        """Check that rows, toggles and sizes are those of before, moved as the carry says."""
        rows, seen, kept = before
        for table in SHOP.tables:
            moved = {new: old for old, new in enumerate(carry.places[table]) if new is not None}
            self.assertEqual(sorted(moved), list(range(len(moved))))
            self.assertEqual(whole_rows(store, table), [rows[table][moved[new]] for new in sorted(moved)])
            for moment in carry.moments:
                places = [carry.new_place(table, old) for old in seen[table][kept.index(moment)]]
                self.assertEqual(list(store.places_of(table, moment).each_place()), sorted(places))
                self.assertEqual(sorted(store.rows_of(table, moment)),
                                 sorted(rows[table][old] for old in seen[table][kept.index(moment)]))

    def check_chains(self, store, layouts, step):
        """Check that all columns of blocks are written as their cells are made, with the chains they keep."""
        for table in SHOP.tables:
            for at, block in enumerate(store.layout(table)):
                for column, (chain, cells) in block.items():
                    numbers = Chain(chain).read(cells, store.sizes(table)[at])
                    wanted = "plain"
                    if step[0] == "recode" and step[1:4] == (table, at, column):
                        wanted = step[4]
                    elif step[0] == "cut" and step[1] == table:
                        wanted = step[3].get(column, "plain")
                    elif step[0] != "gather" or step[1] != table:
                        wanted = layouts[table][at][column][0]
                    coded = fitting_column(wanted, numbers)
                    self.assertEqual((chain, cells), (coded.chain, list(coded.cells)))

    def test_deeds(self):
        dice = random.Random(63)
        done = {}
        for _ in range(250):
            store = store_behind(dice, dice.randint(1, 5))
            step = deed_for(dice, store)
            rows = {table: whole_rows(store, table) for table in SHOP.tables}
            books = {name: store.book_named(name) for name in SHOP.books}
            sizes = {table: store.sizes(table) for table in SHOP.tables}
            layouts = {table: store.layout(table) for table in SHOP.tables}
            seen = {table: [list(store.places_of(table, moment).each_place()) for moment in store.kept]
                    for table in SHOP.tables}
            kept, moment = store.kept, store.moment
            places, codes, moments = self.told_carry(store, (rows, books, kept, sizes), step)
            before = frozen(step)
            carry = perform(store, *step)
            self.assertEqual(before, frozen(step))
            self.assertEqual((carry.places, carry.codes, carry.moments),
                             ({table: tuple(own) for table, own in places.items()}, codes, moments))
            self.assertEqual((store.moment, store.kept), (moment, moments))
            self.check_places(store, carry, (rows, seen, kept))
            self.check_chains(store, layouts, step)
            for table in SHOP.tables:
                if step[0] not in ("cut", "gather") or step[1] != table:
                    self.assertEqual(store.sizes(table), sizes[table])
                elif step[0] == "cut":
                    self.assertEqual(store.sizes(table), step[2])
                else:
                    self.assertTrue(all(size == step[2] for size in store.sizes(table)[:-1]))
                    self.assertTrue(all(size <= step[2] for size in store.sizes(table)))
            done[step[0]] = done.get(step[0], 0) + 1
        self.assertEqual(len(done), 8)

    def test_letting_go_like_the_model(self):
        dice = random.Random(64)
        for _ in range(60):
            books = shop_books(dice)
            store, model = Store(SHOP, books), Model(SHOP, books)
            for _ in range(dice.randint(1, 6)):
                puts, strikes = commit_for(dice, store)
                store.commit(puts, strikes)
                model.commit(puts, strikes)
                if dice.randint(0, 2) == 0:
                    moments = moments_for(dice, store)
                    self.do(store, let_go, moments)
                    model.let_go(moments)
                check_like(self, store, model)

    def test_answers_that_stand(self):
        dice = random.Random(65)
        stood = changed = 0
        for _ in range(240):
            store = store_behind(dice, dice.randint(2, 5))
            questions = [question_for(dice, SHOP, 1) for _ in range(3)]
            answers = {(at, moment): plain_answer(question, store.scene_at(moment).all_rows())
                       for at, question in enumerate(questions) for moment in store.kept}
            carry = perform(store, *deed_for(dice, store))
            for (at, moment), answer in answers.items():
                if moment not in carry.moments:
                    continue
                question = questions[at]
                asked = read_question(f"{question.text} at {moment}", SHOP)
                again = store.ask(asked)
                need = Needs(question).places_need
                if all(is_enough(carry.keeps_places(table), need) for table in question.tables):
                    self.assertEqual(again, answer)
                    stood += 1
                else:
                    self.assertEqual(need, "order")
                    changed += again != answer
        self.assertGreater(stood, 500)
        self.assertGreater(changed, 5)

    def test_unopened_answers_are_carried(self):
        dice = random.Random(66)
        carried = {}
        for _ in range(300):
            store = store_behind(dice, dice.randint(2, 5))
            question = question_for(dice, SHOP, 1)
            kept = {name: store.book_named(name).keeps for name in SHOP.books}
            openings = dice.choice((Needs(question).latest_openings(kept), openings_for(dice, question)))
            plan = Plan(question, openings)
            rows = {moment: unopened_rows(plan, store.scene_at(moment)) for moment in store.kept}
            opened = {moment: [row for row in own] for moment, own in rows.items()}
            step = deed_for(dice, store)
            in_time = Needs(question).in_time(openings, kept)
            carry = perform(store, *step)
            in_time = in_time and Needs(question).in_time(openings, {name: store.book_named(name).keeps for name in SHOP.books})
            needed = Needs(question).places_need
            stands = in_time and all(is_enough(carry.keeps_places(table), needed) for table in question.tables)
            sums = [SHOP.book_of(column) for what, column in question.tells
                    if what == "sum" and SHOP.book_of(column) and openings[SHOP.book_of(column)] == "tell"]
            for moment in carry.moments:
                if sums:
                    check_raises(self, NoCarry, {"book": sums[0]}, carry.carried_rows, question, openings, rows[moment])
                    continue
                again = check_unchanged(self, carry.carried_rows, question, openings, rows[moment])
                self.assertEqual(rows[moment], opened[moment])
                if stands:
                    self.assertEqual(again, unopened_rows(plan, store.scene_at(moment)))
                    carried[step[0]] = carried.get(step[0], 0) + len(again)
        self.assertGreater(min(carried.get(deed, 0) for deed in ("rebook", "cut", "recode", "let go", "gather")), 5)

    def test_sums_of_carries(self):
        dice = random.Random(67)
        for _ in range(60):
            store = store_behind(dice, 3)
            rows = {table: whole_rows(store, table) for table in SHOP.tables}
            books = {name: store.book_named(name) for name in SHOP.books}
            first = perform(store, *deed_for(dice, store))
            if dice.randint(0, 1):
                perform_all(store, [("commit", *commit_for(dice, store))])
            second = perform(store, *deed_for(dice, store))
            both = first + second
            self.assertEqual(both.moments, second.moments)
            for table in SHOP.tables:
                new = whole_rows(store, table)
                for old, row in enumerate(rows[table]):
                    if both.new_place(table, old) is not None:
                        self.assertEqual(new[both.new_place(table, old)], row)
            for name, book in books.items():
                self.assertEqual(both.codes[name], {code: store.book_named(name).code_of(value) for value, code in book.entries})

    def test_best_plans_behind_histories(self):
        dice = random.Random(68)
        for _ in range(40):
            store = Store(SHOP, shop_books(dice))
            for _ in range(6):
                perform_all(store, [step_for(dice, store)])
                question = question_for(dice, SHOP, 1)
                answer = plain_answer(question, {table: store.rows_of(table) for table in SHOP.tables})
                self.assertEqual(store.ask(question), answer)
                best = best_plan(question, store.scene_at().relations())
                self.assertEqual(store.plan_for(question).lines(), best.lines())


class HelpersTest(unittest.TestCase):
    def test_drawn_parts(self):
        dice = random.Random(69)
        for many in (0, 1, 5):
            self.assertEqual(sum(sizes_for(dice, many)), many)
        book = Book("word", 9, [("a", 1), ("b", 5)])
        drawn = [other_book_for(dice, book) for _ in range(40)]
        self.assertEqual({other.keeps for other in drawn}, {"same", "order"})
        self.assertEqual(len(set(itertools.chain(*[other.strays for other in drawn]))), 2)
        check_raises(self, NoCode, {"code": 2}, drawn[0].__class__("word", 9).value_of, 2)


if __name__ == "__main__":
    unittest.main()
