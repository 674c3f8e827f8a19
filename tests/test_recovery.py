import random
import unittest

from colonnade.books import Book
from colonnade.disks import Disk
from colonnade.errors import Fallen, Lost
from colonnade.houses import House
from colonnade.plainly import plain_answer
from colonnade.records import last_found, read_records
from colonnade.recovery import recover
from colonnade.shapes import Shapes

from tests.asking import question_for
from tests.helpers import check_raises
from tests.histories import SHOP, shop_books, state_of, step_for
from tests.housing import NotingDisk, Told, falls_of, files_of, thresholds
from tests.test_disks import state_of as disk_state
from tests.test_houses import LITTLE, do_step

STEPS = [
    ("commit", {"sales": [("oslo", 5, 1), ("bonn", 7, 2)]}, None), ("commit", {"towns": [("rome", 5)]}, {"sales": [0]}),
    ("sort", "sales", "city"), ("restore", 1), ("rebook", "places", Book("word", 9, [("bonn", 1), ("oslo", 9), ("rome", 4)])),
    ("let go", [1, 3]), ("commit", {"sales": [("ulm", 1, 1)]}, {"towns": []}),
]


def noting(disk):
    """Return a disk like one that a fall has left, which notes its steps."""
    noted = NotingDisk()
    for name in disk.all_files():
        noted._take(name, disk.read(name))
    return noted


def houses_behind(steps, shapes=SHOP):
    """Return a house behind all steps, and the states of its store behind each of its records."""
    house = House(shapes, shop_books())
    states = [state_of(house.store)]
    for step in steps:
        do_step(house, step)
        states.append(state_of(house.store))
    return house, states


class RecoverTest(unittest.TestCase):
    def check(self, disk, shapes, states):
        """Recover from a disk, and check the house against the states behind the records."""
        number = last_found(disk)
        record = read_records(disk.read("log"))[number]
        log = [cell for one in read_records(disk.read("log"))[:number + 1] for cell in one.written_cells()]
        files = {name: disk.read(name)[:length] for name, length in record.files.items()}
        house = recover(disk, shapes)
        self.assertIs(house.__class__, House)
        self.assertIs(house.disk, disk)
        self.assertIs(house.shapes, shapes)
        self.assertEqual(state_of(house.store), states[number])
        self.assertEqual(files_of(disk), {**files, "log": log})
        self.assertEqual((house.sure(), house.written(), house.possible(), house.unsure()), (number, number, [number], []))
        self.assertEqual(list(house.files_now().items()), list(record.files.items()))
        return house

    def test_the_last_record(self):
        house, states = houses_behind(STEPS)
        disk = house.disk.fall({name: house.disk.length(name) for name in house.disk.all_files()})
        recovered = self.check(disk, SHOP, states)
        self.assertEqual(recovered.written(), 7)

    def test_a_fall_at_each_step(self):
        whole, states = houses_behind(STEPS)
        told = Told(SHOP, shop_books())
        start = len(told.steps)
        for limit in range(start, whole.disk.steps + 1, 3):
            house = House(SHOP, shop_books())
            house.disk.limit = limit
            done = 0
            try:
                for step in STEPS:
                    do_step(house, step)
                    done += 1
            except Fallen as error:
                self.assertEqual(error.steps, limit)
            everything = {name: house.disk.length(name) for name in house.disk.all_files()}
            self.check(house.disk.fall(everything), SHOP, states)
            recovered = self.check(house.disk.fall({}), SHOP, states)
            self.assertLessEqual(recovered.written(), done)

    def test_steps_of_recovery(self):
        house, states = houses_behind(STEPS[:3])
        house.sync("sales.city.1")
        lengths = {name: house.disk.length(name) for name in house.disk.all_files()}
        disk = noting(house.disk.fall({**lengths, "log": lengths["log"] - 1}))
        disk.put("sales.price.0", 99)
        disk.put("sales.*.0", 99)
        disk.noted.clear()
        ends = [len(record.written_cells()) for record in read_records(disk.read("log"))]
        recover(disk, SHOP)
        self.assertEqual(disk.noted, [
            ("cut", "log", sum(ends)), ("cut", "sales.*.0", lengths["sales.*.0"]),
            ("cut", "sales.price.0", lengths["sales.price.0"]),
            *[("strike", f"sales.{part}.1") for part in ("*", "city", "many", "price")]])
        disk.noted.clear()
        recover(disk, SHOP)
        self.assertEqual(disk.noted, [])

    def test_recovery_that_falls_itself(self):
        house, states = houses_behind(STEPS[:5])
        fallen = house.disk.fall({name: house.disk.length(name) - 1 for name in house.disk.all_files()})
        number = last_found(fallen)
        whole = fallen.fall({})
        recover(whole, SHOP)
        self.assertGreater(whole.steps, 4)
        for limit in range(whole.steps):
            disk = noting(fallen)
            disk.limit = limit
            check_raises(self, Fallen, {"steps": limit}, recover, disk, SHOP)
            self.assertEqual(len(disk.noted), limit)
            again = disk.fall({})
            self.assertEqual(last_found(again), number)
            self.check(again, SHOP, states)
            self.assertEqual(files_of(again), files_of(whole))
            # With a higher limit it goes on where it fell.
            disk.limit = None
            self.check(disk, SHOP, states)
            self.assertEqual(len(disk.noted), whole.steps)

    def test_going_on(self):
        dice = random.Random(91)
        for _ in range(25):
            house, told = House(SHOP, shop_books()), None
            histories = [[]]
            for _ in range(dice.randint(1, 5)):
                step = step_for(dice, house.store)
                do_step(house, step)
                histories.append(histories[-1] + [step])
            lengths = {name: dice.randint(house.disk.synced(name), house.disk.length(name))
                       for name in house.disk.all_files()}
            disk = house.disk.fall(dice.choice((lengths, {**lengths, "log": house.disk.length("log")})))
            number = last_found(disk)
            recovered = recover(disk, SHOP)
            told = Told(SHOP, shop_books())
            for step in histories[number]:
                do_step(told, step)
            self.assertEqual(state_of(recovered.store), state_of(told.store))
            self.assertEqual(files_of(disk), {name: cells for name, cells in files_told(told).items()
                                              if name in told.names.values() or name == "log"})
            told.synced = dict(told.files)
            written = len(told.steps)
            before = {name: disk.length(name) for name in disk.all_files()}
            for _ in range(3):
                step = step_for(dice, recovered.store)
                do_step(recovered, step)
                do_step(told, step)
            self.assertEqual(state_of(recovered.store), state_of(told.store))
            wanted = {}
            for step in told.steps[written:]:
                if step[0] == "put":
                    wanted.setdefault(step[1], []).append(step[2])
            self.assertEqual({name: cells[before.get(name, 0):] for name, cells in files_of(disk).items()
                              if len(cells) > before.get(name, 0)}, wanted)

    def test_all_falls_of_small_histories(self):
        dice = random.Random(92)
        for _ in range(12):
            house = House(LITTLE, shop_books(dice))
            states = [state_of(house.store)]
            for _ in range(dice.randint(1, 3)):
                do_step(house, step_for(dice, house.store))
                states.append(state_of(house.store))
            possible = house.possible()
            for fallen in falls_of(house.disk, thresholds(house.disk)):
                self.assertIn(last_found(fallen), possible)
                self.check(fallen, LITTLE, states)

    def test_answers_behind_recovery(self):
        dice = random.Random(93)
        for _ in range(20):
            house = House(SHOP, shop_books(dice))
            rows = []
            for _ in range(4):
                rows.append({table: house.store.rows_of(table) for table in SHOP.tables})
                do_step(house, step_for(dice, house.store))
            rows.append({table: house.store.rows_of(table) for table in SHOP.tables})
            lengths = {name: dice.randint(house.disk.synced(name), house.disk.length(name))
                       for name in house.disk.all_files()}
            recovered = recover(house.disk.fall({**lengths, "log": house.disk.length("log")}), SHOP)
            question = question_for(dice, SHOP, 1)
            self.assertEqual(recovered.store.ask(question), plain_answer(question, rows[recovered.written()]))

    def test_lost(self):
        check_raises(self, Lost, {}, recover, Disk(), SHOP)
        house = House(SHOP, shop_books())
        for name in ("log", "sales.*.0", "*.money.0"):
            disk = house.disk.fall({})
            disk.strike(name)
            before = disk_state(disk)
            check_raises(self, Lost, {}, recover, disk, SHOP)
            self.assertEqual(disk_state(disk), before)
        disk = house.disk.fall({})
        disk.cut("log", disk.length("log") - 1)
        check_raises(self, Lost, {}, recover, disk, SHOP)

    def test_several_stretches_at_one_moment(self):
        house = House(LITTLE, shop_books())
        house.commit({"sales": [(number,) for number in (1, 2, 3, 4, 5, 6, 7)]})
        house.commit(None, {"sales": [0, 2, 3, 6]})
        house.commit({"sales": [(8,), (9,)]}, {"sales": [4]})
        house.restore(1)
        self.assertEqual([len(pairs) for moment, pairs in house.store.toggles("sales")], [1, 3, 2, 3])
        recovered = recover(house.disk.fall({name: 999 for name in house.disk.all_files()}), LITTLE)
        self.assertEqual(state_of(recovered.store), state_of(house.store))
        self.assertEqual(recovered.store.rows_of("sales", 3), [(2,), (6,), (8,), (9,)])

    def test_two_tables_and_a_book_of_both(self):
        shapes = Shapes([("t", [("a", "number", "n"), ("b", "number", "n")]), ("u", [("c", "word", "nw")])])
        house = House(shapes, {"n": Book("number", 4, [(3, 9), (5, 1)]), "nw": Book("word", 3)})
        house.commit({"t": [(5, 3), (7, 5)], "u": [("b",), ("a",)]})
        house.commit({"t": [(1, -4)]}, {"u": [1]})
        house.perform("cut", "t", [1, 2], {"a": "pick lanes", "b": "runs steps base plain"})
        recovered = recover(house.disk.fall({name: 999 for name in house.disk.all_files()}), shapes)
        self.assertEqual(state_of(recovered.store), state_of(house.store))
        self.assertEqual((recovered.store.moment, recovered.store.kept, recovered.store.rows_of("u", 1)),
                         (2, (0, 1, 2), [("b",), ("a",)]))


def files_told(told):
    """Return the cells of all files that the told steps have put."""
    files = {}
    for step in told.steps:
        if step[0] == "put":
            files.setdefault(step[1], []).append(step[2])
    return files


if __name__ == "__main__":
    unittest.main()
