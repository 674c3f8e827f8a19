import random
import unittest

from colonnade.books import Book
from colonnade.carries import Carry
from colonnade.deeds import perform
from colonnade.disks import Disk
from colonnade.errors import (
    BadMoments, BadName, BadRow, BadSizes, Fallen, Mismatch, NoBook, NoFile, NotKept, NotSeen, StillNeeded, Unfit,
)
from colonnade.houses import House
from colonnade.records import found_records, last_found, read_records
from colonnade.shapes import Shapes
from colonnade.stores import Store

from tests.helpers import check_raises, check_unchanged, frozen
from tests.histories import SHOP, shop_books, state_of, step_for
from tests.housing import Told, falls_of, files_of, noting_house, possible_by_falls, thresholds
from tests.test_disks import state_of as disk_state

TINY = Shapes([("t", [("a", "number", "")])])
# Small enough for all falls of a disk to be tried.
LITTLE = Shapes([("sales", [("price", "number", "money")])])
WORDS = Shapes([("t", [("a", "number", "n"), ("w", "word", "w")])])
NAMES = ["*.money.0", "*.places.0", "sales.*.0", "sales.city.0", "sales.many.0", "sales.price.0", "towns.*.0",
         "towns.rent.0", "towns.town.0"]


def words_house():
    return House(WORDS, {"n": Book("number", 8), "w": Book("word", 8)})


def do_step(house, step):
    """Do a step of a history to a house or to what is told of it."""
    if step[0] == "commit":
        return house.commit(step[1], step[2])
    return house.restore(step[1]) if step[0] == "restore" else house.perform(*step)


class NewHouseTest(unittest.TestCase):
    def test_example_of_the_document(self):
        house = House(TINY, {})
        moment = house.commit({'t': [(5,)]})
        self.assertEqual((moment, house.disk.steps, house.sure(), house.possible(), house.unsure()),
                         (1, 34, 0, [0, 1], ['log', 't.*.0', 't.a.0']))

    def test_files_cell_by_cell(self):
        books = {"n": Book("number", 9, [(7, 3), (5, 1)]), "w": Book("word", 4), "more": 5}
        house = check_unchanged(self, House, WORDS, books)
        self.assertEqual(files_of(house.disk), {
            "*.n.0": ["book", 9, 5, 1, 7, 3], "*.w.0": ["book", 4], "t.*.0": ["toggles"], "t.a.0": ["column"],
            "t.w.0": ["column"],
            "log": [15, "start", 0, 1, 0, 5, "*.n.0", 6, "*.w.0", 2, "t.*.0", 1, "t.a.0", 1, "t.w.0", 1],
        })
        self.assertEqual([house.disk.synced(name) for name in house.disk.all_files()], [6, 2, 16, 1, 1, 1])
        self.assertIs(house.shapes, WORDS)
        self.assertEqual((house.store.__class__, house.disk.__class__), (Store, Disk))
        self.assertEqual((house.sure(), house.written(), house.possible(), house.unsure()), (0, 0, [0], []))
        self.assertEqual(list(house.files_now().items()),
                         [("*.n.0", 6), ("*.w.0", 2), ("t.*.0", 1), ("t.a.0", 1), ("t.w.0", 1)])
        self.assertEqual((house.disk.limit, house.disk.steps), (None, 6 + 2 + 3 + 16 + 6))

    def test_steps(self):
        house = noting_house(WORDS, {"n": Book("number", 9, [(7, 3), (5, 1)]), "w": Book("word", 4)})
        self.assertEqual([step[1] for step in house.disk.noted],
                         ["t.a.0", "t.w.0", "t.*.0", *["*.n.0"] * 6, *["*.w.0"] * 2, *["log"] * 16,
                          "*.n.0", "*.w.0", "t.*.0", "t.a.0", "t.w.0", "log"])
        self.assertEqual([step for step in house.disk.noted if step[0] == "sync"],
                         [("sync", name) for name in ("*.n.0", "*.w.0", "t.*.0", "t.a.0", "t.w.0", "log")])

    def test_errors_of_the_store(self):
        check_raises(self, NoBook, {"name": "n"}, House, WORDS, {"w": Book("word", 4)})
        check_raises(self, Mismatch, {"first": "word", "second": "number"}, House, WORDS,
                     {"n": Book("word", 4), "w": Book("number", 4)})


class CommitTest(unittest.TestCase):
    def test_cells(self):
        house = words_house()
        start = files_of(house.disk)
        self.assertEqual(check_unchanged(self, house.commit, {"t": [(5, "m"), (3, "a"), (5, "z")]}), 1)
        # 5 gets 3, 3 gets 1; m gets 3, a gets 1, z gets 5.
        self.assertEqual(files_of(house.disk), {
            "t.a.0": ["column", 3, "plain", 3, 3, 1, 3], "t.w.0": ["column", 3, "plain", 3, 3, 1, 5],
            "t.*.0": ["toggles", 1, 1, 0, 3], "*.n.0": ["book", 8, 5, 3, 3, 1],
            "*.w.0": ["book", 8, "m", 3, "a", 1, "z", 5],
            "log": start["log"] + [16, "commit", 1, 2, 0, 1, 5, "*.n.0", 6, "*.w.0", 8, "t.*.0", 5, "t.a.0", 7, "t.w.0", 7],
        })
        before = files_of(house.disk)
        self.assertEqual(house.commit(None, {"t": [0, 2]}), 2)
        changed = {name: cells[len(before[name]):] for name, cells in files_of(house.disk).items() if cells != before[name]}
        self.assertEqual(changed, {"t.*.0": [2, 2, 0, 1, 2, 3], "log": [
            17, "commit", 2, 3, 0, 1, 2, 5, "*.n.0", 6, "*.w.0", 8, "t.*.0", 11, "t.a.0", 7, "t.w.0", 7]})
        before = files_of(house.disk)
        self.assertEqual(house.commit(), 3)
        self.assertEqual([name for name, cells in files_of(house.disk).items() if cells != before[name]], ["log"])
        self.assertEqual(house.restore(1), 4)
        self.assertEqual(house.disk.read("t.*.0")[11:], [4, 2, 0, 1, 2, 3])
        self.assertEqual(read_records(house.disk.read("log"))[4].kind, "commit")
        self.assertEqual(house.commit({"t": [(4, "m"), (9, "b")]}, {"t": [1]}), 5)
        self.assertEqual(house.disk.read("*.n.0")[6:], [4, 2, 9, 5])
        self.assertEqual(house.disk.read("t.a.0")[7:], [2, "plain", 2, 2, 5])

    def test_nothing_is_synced(self):
        house = words_house()
        synced = {name: house.disk.synced(name) for name in house.disk.all_files()}
        house.commit({"t": [(5, "m")]})
        house.restore(0)
        self.assertEqual({name: house.disk.synced(name) for name in house.disk.all_files()}, synced)

    def test_order_of_the_steps(self):
        house = noting_house(SHOP, shop_books())
        house.disk.noted.clear()
        house.commit({"towns": [("rome", 5)], "sales": [("oslo", 5, 7)]})
        names = [step[1] for step in house.disk.noted]
        self.assertEqual([name for at, name in enumerate(names) if name not in names[:at]],
                         ["sales.city.0", "sales.price.0", "sales.many.0", "sales.*.0", "towns.town.0", "towns.rent.0",
                          "towns.*.0", "*.money.0", "*.places.0", "log"])
        self.assertEqual(names, sorted(names, key=names.index))
        self.assertTrue(all(step[0] == "put" for step in house.disk.noted))

    def test_errors_before_anything_is_written(self):
        house = words_house()
        house.commit({"t": [(5, "m")]})
        before, state = disk_state(house.disk), state_of(house.store)
        check_raises(self, BadRow, {"table": "t", "at": 1}, house.commit, {"t": [(5, "m"), (5, 5)]})
        check_raises(self, NotSeen, {"table": "t", "place": 1}, house.commit, {"t": [(6, "m")]}, {"t": [1]})
        check_raises(self, NotKept, {"moment": 2}, house.restore, 2)
        check_raises(self, BadSizes, {"table": "t"}, house.perform, "cut", "t", [2])
        check_raises(self, BadName, {"name": "cuts"}, house.perform, "cuts", "t", [2])
        check_raises(self, BadMoments, {"moments": [0]}, house.perform, "let go", [0])
        self.assertEqual((disk_state(house.disk), state_of(house.store)), (before, state))
        house.disk.limit = house.disk.steps
        check_raises(self, NotKept, {"moment": 2}, house.restore, 2)


class DeedTest(unittest.TestCase):
    def test_changed_parts(self):
        for step, changed in (
            (("recode", "sales", 0, "price", "lanes"), ["sales.price"]),
            (("recode", "sales", 0, "price", "plain"), []),
            (("cut", "sales", [2]), []), (("cut", "sales", [1, 1]), ["sales.city", "sales.price", "sales.many"]),
            (("cut", "sales", [2], {"many": "lanes"}), ["sales.many"]),
            (("arrange", "sales", [0, 1]), []),
            (("arrange", "sales", [1, 0]), ["sales.city", "sales.many", "sales.*"]),
            (("sort", "sales", "many"), []), (("sort", "sales", "city"), ["sales.city", "sales.many", "sales.*"]),
            (("let go", [0, 1, 2]), []), (("let go", [2]), ["sales.*", "towns.*"]), (("gather", "towns", 5), []),
            (("rebook", "places", Book("word", 8, [("oslo", 1), ("rome", 3)])), []),
            (("rebook", "places", Book("word", 9, [("oslo", 1), ("rome", 3)])), ["*.places"]),
            (("rebook", "places", Book("word", 8, [("oslo", 2), ("rome", 3)])), ["sales.city", "*.places"]),
            (("rebook", "places", Book("word", 8, [("oslo", 2), ("rome", 4)])),
             ["sales.city", "towns.town", "*.places"]),
        ):
            house = noting_house(SHOP, shop_books())
            house.commit({"sales": [("rome", 5, 1), ("oslo", 5, 2)], "towns": [("rome", 5)]})
            house.commit(None, {"sales": [0]})
            files = house.files_now()
            house.disk.noted.clear()
            before = frozen(step)
            carry = house.perform(*step)
            self.assertEqual(frozen(step), before)
            self.assertIs(carry.__class__, Carry)
            now = [name if part not in changed else f"{part}.1" for part, name in
                   [(name.rpartition(".")[0], name) for name in files]]
            self.assertEqual(list(house.files_now()), sorted(now))
            names = [name for kind, name, *cell in house.disk.noted if kind == "put" and name != "log"]
            self.assertEqual([name for at, name in enumerate(names) if name not in names[:at]],
                             [f"{part}.1" for part in changed])
            self.assertTrue(all(name in house.disk.all_files() for name in files))
            self.assertEqual(read_records(house.disk.read("log"))[-1].kind, "deed")
            self.assertEqual(house.written(), 3)

    def test_syncs_in_front(self):
        house = noting_house(SHOP, shop_books())
        house.commit({"towns": [("rome", 5)]})
        house.disk.noted.clear()
        house.perform("cut", "towns", [1])
        syncs = ["*.money.0", "*.places.0", "towns.*.0", "towns.rent.0", "towns.town.0", "log"]
        self.assertEqual(house.disk.noted[:6], [("sync", name) for name in syncs])
        self.assertTrue(all(step[:2] == ("put", "log") for step in house.disk.noted[6:]))
        self.assertEqual((house.sure(), house.possible(), house.unsure()), (1, [1, 2], ["log"]))
        house.disk.noted.clear()
        house.sync("log")
        house.perform("cut", "towns", [1], {"rent": "lanes"})
        self.assertEqual([step for step in house.disk.noted if step[0] == "sync"], [("sync", "log")])
        self.assertEqual(house.unsure(), ["log", "towns.rent.1"])

    def test_editions(self):
        house = House(SHOP, shop_books())
        house.commit({"sales": [("rome", 5, 1), ("oslo", 5, 2)]})
        for edition, step in enumerate((("recode", "sales", 0, "price", "lanes"), ("recode", "sales", 0, "many", "lanes"),
                                        ("recode", "sales", 0, "price", "plain"), ("let go", [1])), 1):
            house.perform(*step)
            name = {"recode": f"sales.{step[3]}.{edition}", "let go": None}[step[0]] if step[0] == "recode" else None
            if name:
                self.assertIn(name, house.files_now())
        self.assertEqual(sorted(name for name in house.files_now() if not name.endswith(".0")),
                         ["sales.many.2", "sales.price.3"])
        # Nothing but the record was written by the last deed; the next one takes the same edition.
        house.perform("rebook", "places", Book("word", 9, [("oslo", 1), ("rome", 5)]))
        self.assertEqual(house.disk.read("*.places.4"), ["book", 9, "oslo", 1, "rome", 5])
        house.commit({"sales": [("ulm", 1, 1), ("bonn", 1, 1)]})
        self.assertEqual(house.disk.read("*.places.4")[6:], ["ulm", 7, "bonn", 0])
        self.assertIn("sales.city.4", house.files_now())

    def test_a_new_edition_of_a_book_ascends(self):
        house = words_house()
        house.commit({"t": [(5, "m"), (3, "a")]})
        self.assertEqual(house.disk.read("*.w.0"), ["book", 8, "m", 3, "a", 1])
        house.perform("rebook", "w", Book("word", 8, [("m", 3), ("a", 2)]))
        self.assertEqual(house.disk.read("*.w.1"), ["book", 8, "a", 2, "m", 3])
        self.assertEqual(house.disk.read("*.w.0"), ["book", 8, "m", 3, "a", 1])
        self.assertNotIn("*.w.0", house.files_now())

    def test_drawn_histories_step_by_step(self):
        dice = random.Random(81)
        for _ in range(40):
            books = shop_books(dice)
            house, told = noting_house(SHOP, books), Told(SHOP, books)
            for _ in range(dice.randint(0, 6)):
                step = step_for(dice, house.store)
                done, wanted = do_step(house, step), do_step(told, step)
                if step[0] not in ("commit", "restore"):
                    self.assertEqual((done.places, done.codes, done.moments), (wanted.places, wanted.codes, wanted.moments))
                elif step[0] == "commit":
                    self.assertEqual(done, house.store.moment)
                if dice.randint(0, 3) == 0:
                    for name in dice.choice(([], ["log"], house.unsure()[:1], house.unsure())):
                        house.sync(name)
                        told.sync(name)
                self.assertEqual(house.disk.noted, told.steps)
                self.assertEqual(house.disk.steps, len(told.steps))
                self.assertEqual(list(house.files_now().items()), [(name, told.files[name]) for name in sorted(told.names.values())])
                self.assertEqual(state_of(house.store), state_of(told.store))
                self.assertEqual(house.written(), len(read_records(house.disk.read("log"))) - 1)


class SyncTest(unittest.TestCase):
    def test_with_names(self):
        house = noting_house(WORDS, {"n": Book("number", 8), "w": Book("word", 8)})
        house.commit({"t": [(5, "m")]})
        house.disk.noted.clear()
        self.assertIsNone(house.sync("t.w.0", "log", "t.a.0", "log"))
        self.assertEqual(house.disk.noted, [("sync", name) for name in ("t.w.0", "log", "t.a.0", "log")])
        self.assertEqual(house.unsure(), ["*.n.0", "*.w.0", "t.*.0"])

    def test_without_names(self):
        house = noting_house(WORDS, {"n": Book("number", 8), "w": Book("word", 8)})
        house.commit({"t": [(5, "m")]})
        house.commit(None, {"t": [0]})
        house.sync("t.w.0")
        house.disk.noted.clear()
        self.assertIsNone(house.sync())
        self.assertEqual(house.disk.noted, [("sync", name) for name in ("*.n.0", "*.w.0", "t.*.0", "t.a.0", "log")])
        house.disk.noted.clear()
        house.sync()
        self.assertEqual((house.disk.noted, house.unsure(), house.sure()), ([], [], 2))

    def test_only_files_of_the_last_record(self):
        house = noting_house(SHOP, shop_books())
        house.commit({"sales": [("rome", 5, 1), ("oslo", 5, 2)]})
        house.perform("sort", "sales", "city")
        house.disk.put("sales.city.0", 5)
        house.disk.noted.clear()
        house.sync()
        self.assertEqual(house.disk.noted, [("sync", name) for name in ("sales.city.1", "sales.many.1", "log")])

    def test_errors(self):
        house = words_house()
        house.commit({"t": [(5, "m")]})
        before = disk_state(house.disk)
        check_raises(self, NoFile, {"name": "t.b.0"}, house.sync, "log", "t.b.0", "")
        check_raises(self, NoFile, {"name": ""}, house.sync, "")
        self.assertEqual(disk_state(house.disk), before)
        house.disk.limit = house.disk.steps + 2
        check_raises(self, NoFile, {"name": "x"}, house.sync, "log", "log", "log", "x")
        check_raises(self, Fallen, {"steps": house.disk.steps + 2}, house.sync)
        self.assertEqual(house.unsure(), ["log", "t.*.0", "t.a.0", "t.w.0"])


class StrikeTest(unittest.TestCase):
    def old_files(self):
        """Return a house in which a deed is not sure yet."""
        house = House(SHOP, shop_books())
        house.commit({"sales": [("rome", 5, 1), ("oslo", 5, 2)]})
        house.perform("sort", "sales", "city")
        return house

    def test_files_that_are_still_needed(self):
        house = self.old_files()
        self.assertEqual((house.sure(), house.possible()), (1, [1, 2]))
        before = disk_state(house.disk)
        for name, number in (("sales.city.0", 1), ("sales.city.1", 2), ("sales.price.0", 1), ("towns.*.0", 1), ("log", 1)):
            check_raises(self, StillNeeded, {"name": name, "record": number}, house.strike, name)
        for name in ("sales.city.2", "", "logs"):
            check_raises(self, NoFile, {"name": name}, house.strike, name)
        self.assertEqual(disk_state(house.disk), before)

    def test_files_that_are_not_needed_any_more(self):
        house = self.old_files()
        house.sync()
        self.assertEqual(house.possible(), [2])
        for name in ("sales.city.0", "sales.many.0"):
            self.assertIsNone(house.strike(name))
            self.assertNotIn(name, house.disk.all_files())
            check_raises(self, NoFile, {"name": name}, house.strike, name)
        for name in ("sales.city.1", "sales.price.0", "log"):
            check_raises(self, StillNeeded, {"name": name, "record": 2}, house.strike, name)
        self.assertEqual((house.sure(), house.possible(), house.unsure()), (2, [2], []))
        house.commit(None, {"sales": [0]})
        self.assertEqual((house.sure(), house.possible()), (2, [2, 3]))

    def test_fallen(self):
        house = self.old_files()
        house.sync()
        house.disk.limit = house.disk.steps
        check_raises(self, Fallen, {"steps": house.disk.steps}, house.strike, "sales.city.0")
        check_raises(self, StillNeeded, {"name": "log", "record": 2}, house.strike, "log")
        check_raises(self, NoFile, {"name": "x"}, house.strike, "x")
        self.assertIn("sales.city.0", house.disk.all_files())

    def test_what_would_be_lost(self):
        dice = random.Random(82)
        struck = needed = 0
        for _ in range(120):
            house = House(LITTLE, shop_books(dice))
            for _ in range(dice.randint(1, 5)):
                do_step(house, step_for(dice, house.store))
                for name in dice.choice(([], house.unsure()[1:2], house.unsure())):
                    house.sync(name)
            possible = possible_by_falls(house.disk, thresholds(house.disk))
            records = read_records(house.disk.read("log"))
            still = []
            for name in house.disk.all_files():
                having = [number for number in possible if name in records[number].files or name == "log"]
                if having:
                    check_raises(self, StillNeeded, {"name": name, "record": having[0]}, house.strike, name)
                    still.append(name)
                else:
                    house.strike(name)
                    struck += 1
                self.assertEqual(possible_by_falls(house.disk, thresholds(house.disk)), possible)
            # If another file is struck, some fall leaves a disk on which a possible record is found no more.
            needed += len(still)
            name = dice.choice([name for name in still if name != "log"])
            house.disk.strike(name)
            self.assertNotEqual(possible_by_falls(house.disk, thresholds(house.disk)), possible)
        self.assertGreater(min(struck, needed), 20)


class SureTest(unittest.TestCase):
    def test_all_falls(self):
        house = House(TINY, {})
        house.commit({"t": [(5,)]})
        for names in ((), ("t.a.0",), ("log",), ("t.*.0",)):
            house.sync(*names[:1]) if names else None
            found = possible_by_falls(house.disk)
            self.assertEqual((house.possible(), house.sure()), (found, found[0]))
            self.assertEqual(found, possible_by_falls(house.disk, thresholds(house.disk)))
        self.assertEqual((house.possible(), house.unsure()), ([1], []))

    def test_drawn_histories(self):
        dice = random.Random(83)
        counts = {}
        for _ in range(60):
            house = House(LITTLE, shop_books(dice))
            for _ in range(dice.randint(1, 4)):
                do_step(house, step_for(dice, house.store))
                for name in dice.choice(([], [], ["log"], house.unsure()[1:2], house.unsure()[:-1], house.unsure())):
                    house.sync(name)
            before = disk_state(house.disk)
            found = possible_by_falls(house.disk, thresholds(house.disk))
            self.assertEqual(house.possible(), found)
            self.assertEqual((house.sure(), house.written()), (found[0], last_found(house.disk)))
            counts[len(found)] = counts.get(len(found), 0) + 1
            # The last record becomes sure exactly when all unsure files are synced.
            unsure = house.unsure()
            self.assertEqual(unsure, sorted(unsure))
            for name in unsure:
                lengths = {other: house.disk.length(other) for other in house.disk.all_files() if other != name}
                self.assertNotIn(house.written(), found_records(house.disk.fall(lengths)))
            lengths = {name: house.disk.length(name) for name in unsure}
            self.assertEqual(last_found(house.disk.fall(lengths)), house.written())
            self.assertEqual(disk_state(house.disk), before)
        self.assertGreater(len(counts), 2)

    def test_synced_log_and_unsynced_files(self):
        house = House(TINY, {})
        house.commit({"t": [(5,)]})
        house.commit()
        house.sync("log")
        # The second commit needs nothing that the first one does not need.
        self.assertEqual((house.sure(), house.possible(), house.unsure()), (0, [0, 2], ["t.*.0", "t.a.0"]))
        house.sync("t.*.0")
        self.assertEqual((house.possible(), house.unsure()), ([0, 2], ["t.a.0"]))
        house.sync("t.a.0")
        self.assertEqual((house.sure(), house.possible(), house.unsure()), (2, [2], []))

    def test_new_files_of_a_single_cell(self):
        house = House(TINY, {})
        house.commit({"t": [(5,)]})
        house.commit(None, {"t": [0]})
        house.perform("let go", [2])
        house.perform("gather", "t", 1)
        self.assertEqual([house.disk.read(name) for name in house.files_now()], [["toggles"], ["column"]])
        house.sync("log")
        self.assertEqual((house.possible(), house.unsure()), ([3, 4], ["t.a.2"]))
        self.assertEqual(possible_by_falls(house.disk), [3, 4])

    def test_results_are_new(self):
        house = House(TINY, {})
        house.commit({"t": [(5,)]})
        for found in (house.possible(), house.unsure(), house.files_now()):
            found.clear()
        self.assertEqual((house.possible(), house.unsure(), house.files_now()),
                         ([0, 1], ["log", "t.*.0", "t.a.0"], {"t.*.0": 5, "t.a.0": 5}))


class FallenTest(unittest.TestCase):
    def test_at_each_step(self):
        steps = [("commit", {"sales": [("oslo", 5, 1), ("bonn", 7, 2)]}, None), ("commit", {"towns": [("rome", 5)]}, {"sales": [0]}),
                 ("sort", "sales", "city"), ("restore", 1)]
        whole = noting_house(SHOP, shop_books())
        starts = [whole.disk.steps]
        for step in steps:
            do_step(whole, step)
            starts.append(whole.disk.steps)
        for at, step in enumerate(steps):
            for limit in range(starts[at], starts[at + 1]):
                house = noting_house(SHOP, shop_books())
                for earlier in steps[:at]:
                    do_step(house, earlier)
                house.disk.limit = limit
                check_raises(self, Fallen, {"steps": limit}, do_step, house, step)
                self.assertEqual(house.disk.noted, whole.disk.noted[:limit])
                # What stays is an earlier record, or the new one when its last cell is there.
                self.assertEqual(last_found(house.disk), at)
            house = noting_house(SHOP, shop_books())
            for earlier in steps[:at]:
                do_step(house, earlier)
            house.disk.limit = starts[at + 1]
            do_step(house, step)
            self.assertEqual((house.disk.noted, last_found(house.disk)), (whole.disk.noted[:starts[at + 1]], at + 1))

    def test_three_falls(self):
        # Of two falls and a third one that leaves the shorter beginnings, the third one finds the earlier record.
        dice = random.Random(84)
        for _ in range(30):
            house = House(SHOP, shop_books(dice))
            for _ in range(dice.randint(1, 4)):
                do_step(house, step_for(dice, house.store))
            lengths = thresholds(house.disk)
            for _ in range(12):
                one, other = [{name: dice.choice(own) for name, own in lengths.items()} for _ in range(2)]
                both = {name: min(one[name], other[name]) for name in lengths}
                found = [last_found(house.disk.fall(told)) for told in (one, other, both)]
                self.assertEqual(found[2], min(found[:2]))


class StoreTest(unittest.TestCase):
    def test_the_store_is_one_object(self):
        house = House(SHOP, shop_books())
        store, disk = house.store, house.disk
        other = Store(SHOP, shop_books())
        dice = random.Random(85)
        for _ in range(8):
            step = step_for(dice, store)
            do_step(house, step)
            if step[0] == "commit":
                other.commit(*step[1:])
            elif step[0] == "restore":
                other.restore(step[1])
            else:
                perform(other, *step)
            self.assertIs(house.store, store)
            self.assertIs(house.disk, disk)
            self.assertEqual(state_of(store), state_of(other))

    def test_unfit(self):
        house = House(TINY, {})
        house.commit({"t": [(-5,)]})
        steps = house.disk.steps
        check_raises(self, Unfit, {"chain": "lanes"}, house.perform, "recode", "t", 0, "a", "lanes")
        self.assertEqual(house.disk.steps, steps)
        self.assertEqual(len(list(falls_of(house.disk, {"log": [0]}))), 1)


if __name__ == "__main__":
    unittest.main()
