import random
import unittest

from colonnade.books import Book
from colonnade.coded import Scene
from colonnade.errors import BadRow, Full, Mismatch, NoBook, NotKept, NotSeen, NoTable, TooMany
from colonnade.engine import work
from colonnade.plainly import plain_answer
from colonnade.plans import Plan
from colonnade.reading import read_question
from colonnade.rules import best_plan
from colonnade.shapes import Shapes
from colonnade.stores import Store
from colonnade.stretches import Stretches

from tests.asking import question_for
from tests.helpers import check_raises, check_unchanged
from tests.histories import SHOP, Model, check_like, commit_for, shop, shop_books, state_of, whole_rows

TINY = Shapes([("t", [("a", "number", "")]), ("u", [("w", "word", "words")])])


class NewStoreTest(unittest.TestCase):
    def test_empty(self):
        books = shop_books()
        store = check_unchanged(self, Store, SHOP, {**books, "more": 5})
        self.assertEqual((store.moment, store.kept), (0, (0,)))
        self.assertIs(store.shapes, SHOP)
        for table in SHOP.tables:
            self.assertEqual((store.layout(table), store.sizes(table), store.toggles(table)), ([], [], []))
            self.assertEqual((store.rows_of(table), store.places_of(table).pairs), ([], ()))
        self.assertEqual(store.book_named("places").entries, ())
        check_raises(self, NoBook, {"name": "more"}, store.book_named, "more")

    def test_later_changes_have_no_effect(self):
        books = shop_books()
        store = Store(SHOP, books)
        books.clear()
        rows = [("rome", 5, 1)]
        strikes = []
        store.commit({"sales": rows}, {"sales": strikes})
        rows.append(("x", 1, 1))
        strikes.append(0)
        self.assertEqual(store.rows_of("sales"), [("rome", 5, 1)])
        before = state_of(store)
        for found in (store.layout("sales"), store.layout("sales")[0], store.layout("sales")[0]["city"][1],
                      store.sizes("sales"), store.toggles("sales"), store.weights("places"), store.rows_of("sales")):
            found.clear()
        self.assertEqual(state_of(store), before)

    def test_errors(self):
        books = shop_books()
        wrong = {"places": Book("number", 5), "money": Book("word", 5)}
        check_raises(self, NoBook, {"name": "money"}, Store, SHOP, {})
        check_raises(self, NoBook, {"name": "money"}, Store, SHOP, {"places": wrong["places"]})
        check_raises(self, NoBook, {"name": "places"}, Store, SHOP, {"money": wrong["money"]})
        check_raises(self, Mismatch, {"first": "word", "second": "number"}, Store, SHOP, wrong)
        check_raises(self, Mismatch, {"first": "number", "second": "word"}, Store, SHOP, {**books, "places": wrong["places"]})


class CommitTest(unittest.TestCase):
    def test_put_strike_both_and_neither(self):
        store = Store(SHOP, shop_books())
        puts = {"sales": [("rome", 5, 1), ("oslo", 7, 2), ("rome", 5, 3)]}
        self.assertEqual((check_unchanged(self, store.commit, puts), store.moment, store.kept), (1, 1, (0, 1)))
        self.assertEqual((check_unchanged(self, store.commit, None, {"sales": [2, 0]}), store.kept), (2, (0, 1, 2)))
        self.assertEqual(store.rows_of("sales"), [("oslo", 7, 2)])
        self.assertEqual(store.commit({"sales": [("bonn", 1, 9)], "towns": [("rome", 8)]}, {"sales": [1]}), 3)
        self.assertEqual(store.rows_of("sales"), [("bonn", 1, 9)])
        before = state_of(store)
        for at, told in enumerate(((), ({},), ({}, {}), (None, None), ({"sales": []}, {"sales": [], "towns": []}))):
            self.assertEqual(store.commit(*told), 4 + at)
        self.assertEqual(state_of(store)[2:], before[2:])
        self.assertEqual(store.kept, tuple(range(9)))
        self.assertEqual(store.toggles("sales"), [(1, ((0, 3),)), (2, ((0, 1), (2, 3))), (3, ((1, 2), (3, 4)))])
        self.assertEqual(store.sizes("sales"), [3, 1])

    def test_layout(self):
        store = shop()
        self.assertEqual(store.layout("sales"), [
            {"city": ("plain", [3, 1]), "price": ("plain", [3, 5]), "many": ("plain", [1, 2])},
            {"city": ("plain", [0]), "price": ("plain", [3]), "many": ("plain", [3])},
        ])
        self.assertEqual([list(block) for block in store.layout("sales")], [["city", "price", "many"]] * 2)
        # The newcomer 9 stands between 7, with the code 5, and the room 8.
        self.assertEqual(store.layout("towns"), [{"town": ("plain", [3]), "rent": ("plain", [6])}])
        self.assertEqual((store.sizes("sales"), store.sizes("towns")), ([2, 1], [1]))
        self.assertEqual(store.toggles("sales"), [(1, ((0, 2),)), (2, ((0, 1),)), (3, ((2, 3),))])
        self.assertEqual(store.toggles("towns"), [(1, ((0, 1),)), (3, ((0, 1),))])

    def test_newcomers_in_the_order_of_tables_rows_and_columns(self):
        shapes = Shapes([("z", [("b", "word", "w"), ("a", "word", "w")]), ("t", [("c", "word", "w"), ("d", "number", "n")])])
        store = Store(shapes, {"w": Book("word", 9), "n": Book("number", 5)})
        store.commit({"t": [("first", 3), ("n", 1)], "z": [("n", "d"), ("c", "x")]})
        book = Book("word", 9)
        for value in ("n", "d", "c", "x", "first"):
            book = book + value
        self.assertEqual(store.book_named("w").entries, book.entries)
        self.assertEqual(store.book_named("n").entries, (Book("number", 5) + 3 + 1).entries)
        store.commit({"t": [("y", 9)]}, {"z": [0]})
        self.assertEqual(store.book_named("w").entries, (book + "y").entries)

    def test_each_error(self):
        full = {"places": Book("word", 999, [(word, at) for at, word in enumerate(sorted(
            one + other for one in "cdefghijklmn" for other in "abcdefghij")) if at < 119]), "money": Book("number", 8)}
        store = Store(SHOP, full)
        store.commit({"sales": [("ca", 5, 1), ("ca", 7, 2)]})
        store.commit({"towns": [("ca", at % 3) for at in range(998)]}, {"sales": [0]})
        bad_puts = {"towns": [("a", 1)] * 2, "sales": [("a", 1, 1), ("x", 1), ("y",)]}
        bad_strikes = {"towns": [4, 4], "sales": [1, 0]}
        sick = [
            (NoTable, {"name": "city"}, ({**bad_puts, "city": [], "what": []}, {"shop": [], **bad_strikes})),
            (NoTable, {"name": "shop"}, (bad_puts, {**bad_strikes, "shop": [], "any": []})),
            (BadRow, {"table": "sales", "at": 1}, (bad_puts, bad_strikes)),
            (BadRow, {"table": "towns", "at": 2}, ({"towns": [("a", 1), ("b", 2), ("c", "d")]}, bad_strikes)),
            (NotSeen, {"table": "sales", "place": 0}, ({"towns": [("a", 1)] * 2}, bad_strikes)),
            (NotSeen, {"table": "towns", "place": 4}, ({"towns": [("a", 1)] * 2}, {"towns": [3, 4, 4, 999]})),
            (NotSeen, {"table": "sales", "place": 2}, ({"sales": [("a", 1, 1)]}, {"sales": [1, 2]})),
            (TooMany, {"part": "towns"}, ({"towns": [("n", 1)] * 2, "sales": [("a", 1, 1), ("b", 1, 1)]}, {"sales": [1]})),
            (Full, {"value": "b"}, ({"towns": [("c", 1)], "sales": [("a", 1, 1), ("b", 1, 1)]}, {"sales": [1]})),
        ]
        before = state_of(store)
        for kind, told, arguments in sick:
            check_raises(self, kind, told, store.commit, *arguments)
            self.assertEqual(state_of(store), before)
        self.assertEqual(store.commit({"towns": [("ca", 1)], "sales": [("a", 1, 1)]}, {"sales": [1]}), 3)
        self.assertEqual((sum(store.sizes("towns")), store.rows_of("sales")), (999, [("a", 1, 1)]))

    def test_rows_that_are_bad(self):
        store = shop()
        before = state_of(store)
        for row in ((), ("rome", 1), ("rome", 1, 1, 1), (1, 1, 1), ("rome", "x", 1), ("Rome", 1, 1), ("rome", True, 1),
                    ("rome", 1, 10 ** 9), ("rome", None, 1), ("", 1, 1)):
            check_raises(self, BadRow, {"table": "sales", "at": 1}, store.commit, {"sales": [("rome", 1, 1), row]})
        self.assertEqual(state_of(store), before)

    def test_places_that_are_not_seen(self):
        store = shop()
        before = state_of(store)
        for place in (0, 3, -1, 999, 10 ** 12, True):
            check_raises(self, NotSeen, {"table": "sales", "place": place}, store.commit, None, {"sales": [2, place]})
        check_raises(self, NotSeen, {"table": "towns", "place": 0}, store.commit, {}, {"towns": [0]})
        check_raises(self, NotSeen, {"table": "sales", "place": 2}, store.commit, {}, {"sales": [2, 1, 2]})
        self.assertEqual(state_of(store), before)

    def test_most_places(self):
        store = Store(TINY, {"words": Book("word", 9)})
        store.commit({"t": [(at,) for at in range(999)]})
        self.assertEqual(store.sizes("t"), [999])
        check_raises(self, TooMany, {"part": "t"}, store.commit, {"t": [(1,)]}, {"t": [0, 1]})
        store.commit({"u": [("a",)] * 3}, {"t": list(range(999))})
        check_raises(self, TooMany, {"part": "t"}, store.commit, {"t": [(1,)]})
        check_raises(self, TooMany, {"part": "u"}, store.commit, {"u": [("a",)] * 997})
        self.assertEqual((store.commit({"u": [("a",)] * 996}), store.rows_of("t")), (3, []))

    def test_most_moments(self):
        store = Store(TINY, {"words": Book("word", 1, [("m", 9999999)])})
        for moment in range(1, 1000):
            if moment % 200 == 1:
                self.assertEqual(store.commit({"t": [(moment,)]}), moment)
            else:
                self.assertEqual(store.restore(moment - 1) if moment % 2 else store.commit(), moment)
        self.assertEqual(store.kept, tuple(range(1000)))
        before = state_of(store)
        check_raises(self, TooMany, {"part": "moment"}, store.commit)
        check_raises(self, TooMany, {"part": "moment"}, store.commit, {"u": [("z",)]})
        check_raises(self, TooMany, {"part": "t"}, store.commit, {"u": [("z",)], "t": [(1,)] * 995})
        check_raises(self, NotSeen, {"table": "t", "place": 5}, store.commit, {"u": [("z",)]}, {"t": [5]})
        check_raises(self, TooMany, {"part": "moment"}, store.restore, 0)
        check_raises(self, NotKept, {"moment": 1000}, store.restore, 1000)
        self.assertEqual(state_of(store), before)
        self.assertEqual([len(store.rows_of("t", moment)) for moment in (0, 1, 200, 201, 999)], [0, 1, 1, 2, 5])
        self.assertEqual(Store(TINY, {"words": Book("word", 1, [("m", 9999999)])}).commit(), 1)
        check_raises(self, Full, {"value": "z"}, Store(TINY, {"words": Book("word", 1, [("m", 9999999)])}).commit,
                     {"u": [("m",), ("z",)]})

    def test_drawn_histories(self):
        dice = random.Random(51)
        for _ in range(40):
            books = shop_books(dice)
            store, model = Store(SHOP, books), Model(SHOP, books)
            for _ in range(dice.randint(1, 7)):
                if dice.randint(0, 3):
                    puts, strikes = commit_for(dice, store)
                    self.assertEqual(store.commit(puts, strikes), store.moment)
                    model.commit(puts, strikes)
                else:
                    moment = dice.choice(store.kept)
                    self.assertEqual(store.restore(moment), store.moment)
                    model.restore(moment)
                    for table in SHOP.tables:
                        self.assertEqual(store.places_of(table).pairs, store.places_of(table, moment).pairs)
                check_like(self, store, model)
                for table in SHOP.tables:
                    self.assertEqual(whole_rows(store, table), model.rows[table])


class RestoreTest(unittest.TestCase):
    def test_each_moment(self):
        for moment, rows, towns in ((0, [], []), (1, [("rome", 5, 1), ("oslo", 7, 2)], [("rome", 9)]),
                                    (2, [("oslo", 7, 2)], [("rome", 9)]), (3, [("oslo", 7, 2), ("bonn", 5, 3)], [])):
            store = shop()
            layout = store.layout("sales")
            self.assertEqual((store.restore(moment), store.moment, store.kept), (4, 4, (0, 1, 2, 3, 4)))
            self.assertEqual((store.rows_of("sales"), store.rows_of("towns")), (rows, towns))
            self.assertEqual(store.layout("sales"), layout)
            self.assertEqual(store.rows_of("sales", 1), [("rome", 5, 1), ("oslo", 7, 2)])

    def test_just_what_is_seen_at_one_of_them_is_toggled(self):
        store = shop()
        store.restore(1)
        self.assertEqual(store.toggles("sales")[-1], (4, ((0, 1), (2, 3))))
        self.assertEqual(store.toggles("towns")[-1], (4, ((0, 1),)))
        store.restore(4)
        self.assertEqual([len(store.toggles(table)) for table in SHOP.tables], [4, 3])

    def test_moments_that_are_not_kept(self):
        store = shop()
        before = state_of(store)
        for moment in (4, -1, 999, True, False):
            check_raises(self, NotKept, {"moment": moment}, store.restore, moment)
        self.assertEqual(state_of(store), before)


class ReadingTest(unittest.TestCase):
    def test_scenes(self):
        store = shop()
        for moment, seen in ((None, ((1, 3),)), (0, ()), (1, ((0, 2),)), (2, ((1, 2),)), (3, ((1, 3),))):
            scene = store.scene_at() if moment is None else store.scene_at(moment)
            self.assertIs(scene.__class__, Scene)
            self.assertIs(scene.shapes, SHOP)
            table = scene.table_named("sales")
            self.assertEqual((table.name, table.many, table.seen.pairs), ("sales", 3, seen))
            self.assertEqual([block.many for block in table.blocks], [2, 1])
            self.assertEqual(scene.rows_of("sales"), store.rows_of("sales", moment))
            self.assertEqual(store.places_of("sales", moment).pairs, seen)
            self.assertIs(store.places_of("sales", moment).__class__, Stretches)
            self.assertEqual(scene.book_named("money").entries, store.book_named("money").entries)

    def test_scenes_never_change(self):
        store = shop()
        scene = store.scene_at()
        store.commit({"sales": [("york", 1, 1)]}, {"sales": [1]})
        self.assertEqual(scene.rows_of("sales"), [("oslo", 7, 2), ("bonn", 5, 3)])
        self.assertNotIn("york", scene.book_named("places"))

    def test_errors(self):
        store = shop()
        for moment in (4, -1, 999, True):
            for call in (store.scene_at, store.restore):
                check_raises(self, NotKept, {"moment": moment}, call, moment)
            for call in (store.rows_of, store.places_of):
                check_raises(self, NotKept, {"moment": moment}, call, "sales", moment)
                check_raises(self, NoTable, {"name": "city"}, call, "city", moment)
        for name in ("city", "", "places"):
            for call in (store.layout, store.sizes, store.toggles, store.rows_of, store.places_of):
                check_raises(self, NoTable, {"name": name}, call, name)
        for name in ("sales", "", "city"):
            check_raises(self, NoBook, {"name": name}, store.book_named, name)
            check_raises(self, NoBook, {"name": name}, store.weights, name)

    def test_weights(self):
        store = shop()
        self.assertEqual(list(store.weights("places").items()), [("bonn", 1), ("oslo", 1), ("rome", 2)])
        self.assertEqual(list(store.weights("money").items()), [(5, 2), (7, 1), (9, 1)])
        store.commit({}, {"sales": [1, 2]})
        self.assertEqual(store.weights("money"), {5: 2, 7: 1, 9: 1})
        with_more = Store(SHOP, {**shop_books(), "money": Book("number", 9, [(3, 1), (4, 2)])})
        self.assertEqual(with_more.weights("money"), {3: 0, 4: 0})
        self.assertEqual(Store(SHOP, shop_books()).weights("places"), {})


class AskTest(unittest.TestCase):
    def test_moments(self):
        store = shop()
        for text, answer in (
            ("from sales tell city, many", [("oslo", 2), ("bonn", 3)]), ("from sales tell city at 0", []),
            ("from sales tell city order city down at 1", [("rome",), ("oslo",)]), ("from sales tell sum price at 2", [(7,)]),
            ("from sales join towns on city = town tell rent at 1", [(9,)]), ("from towns tell count at 3", []),
        ):
            question = read_question(text, SHOP)
            self.assertEqual(check_unchanged(self, store.ask, question), answer)
            for size in (1, 2, 999):
                self.assertEqual(store.ask(question, size=size), answer)
        check_raises(self, NotKept, {"moment": 4}, store.ask, read_question("from sales tell city at 4", SHOP))

    def test_plans(self):
        store = shop()
        question = read_question("from sales where many = many and city < 'p' and price = 5 tell city order city at 2", SHOP)
        plan = check_unchanged(self, store.plan_for, question)
        best = best_plan(question, {"places": "order", "money": "order"})
        self.assertIs(plan.__class__, Plan)
        self.assertEqual((plan.question.text, plan.openings, plan.passing, plan.size),
                         (best.question.text, {"money": "tell", "places": "tell"}, True, 8))
        # The newcomer between two neighbouring codes breaks the order, for all moments.
        for word in ("bonna", "bonnaa", "bonnb"):
            store.commit({"towns": [(word, 5)]})
        self.assertEqual(store.book_named("places").keeps, "same")
        self.assertEqual(store.plan_for(question).openings, {"money": "tell", "places": "scan"})
        self.assertEqual(store.ask(question), [])

    def test_drawn_questions(self):
        dice = random.Random(52)
        for _ in range(25):
            store = Store(SHOP, shop_books(dice))
            for _ in range(dice.randint(1, 5)):
                store.commit(*commit_for(dice, store))
            for _ in range(6):
                question = question_for(dice, SHOP)
                moment = dice.choice((None, *store.kept))
                at = "" if moment is None else f" at {moment}"
                asked = read_question(question.text + at, SHOP)
                answer = plain_answer(question, {table: store.rows_of(table, moment) for table in SHOP.tables})
                self.assertEqual(store.ask(asked, size=dice.randint(1, 4)), answer)
                plan = store.plan_for(asked)
                best = best_plan(asked, store.scene_at().relations())
                self.assertEqual((plan.question.text, plan.openings), (best.question.text, best.openings))
                self.assertEqual(work(plan, store.scene_at(moment)).rows, answer)


class Stop(Exception):
    pass


class TrialTest(unittest.TestCase):
    def test_without_an_error(self):
        store = shop()
        with store.trial() as held:
            self.assertIs(held, store)
            store.commit({"sales": [("york", 1, 1)]})
        self.assertEqual((store.moment, len(store.rows_of("sales"))), (4, 3))

    def test_with_an_error(self):
        store = shop()
        before, scene = state_of(store), store.scene_at()
        with self.assertRaises(Stop):
            with store.trial() as held:
                held.commit({"sales": [("york", 1, 1)]}, {"sales": [1]})
                held.restore(1)
                self.assertEqual(store.moment, 5)
                raise Stop()
        self.assertEqual(state_of(store), before)
        self.assertNotIn("york", store.book_named("places"))
        self.assertEqual(store.scene_at().all_rows(), scene.all_rows())
        self.assertEqual(store.commit({"sales": [("york", 1, 1)]}), 4)

    def test_an_error_of_the_store_is_passed_on(self):
        store = shop()
        before = state_of(store)
        try:
            with store.trial():
                store.commit()
                store.commit(None, {"sales": [0]})
        except NotSeen as error:
            self.assertEqual((error.table, error.place), ("sales", 0))
        self.assertEqual(state_of(store), before)

    def test_as_it_was_when_the_block_began(self):
        store = shop()
        trial = store.trial()
        store.commit({"sales": [("york", 1, 1)]})
        before = state_of(store)
        with self.assertRaises(Stop):
            with trial:
                store.commit()
                raise Stop()
        self.assertEqual(state_of(store), before)

    def test_a_trial_within_a_trial(self):
        store = shop()
        before = state_of(store)
        with self.assertRaises(Stop):
            with store.trial():
                store.commit({"sales": [("york", 1, 1)]})
                inside = state_of(store)
                with self.assertRaises(Stop):
                    with store.trial() as held:
                        self.assertIs(held, store)
                        store.commit({"sales": [("ulm", 1, 1)]})
                        raise Stop()
                self.assertEqual(state_of(store), inside)
                with store.trial():
                    store.commit({"sales": [("kiel", 1, 1)]})
                self.assertEqual(store.moment, 5)
                raise Stop()
        self.assertEqual(state_of(store), before)

    def test_leaving_by_return(self):
        store = shop()

        def commits():
            with store.trial():
                return store.commit()

        self.assertEqual((commits(), store.moment), (4, 4))


if __name__ == "__main__":
    unittest.main()
