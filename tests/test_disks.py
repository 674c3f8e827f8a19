import itertools
import random
import unittest

from colonnade.disks import Disk
from colonnade.errors import BadLimit, Fallen, NoFile

from tests.helpers import check_raises, check_unchanged


def disk_of(**files):
    """Return a disk with files, each told by its cells and the number of the synced ones."""
    disk = Disk()
    for name, (cells, synced) in files.items():
        for cell in cells[:synced]:
            disk.put(name, cell)
        if synced:
            disk.sync(name)
        for cell in cells[synced:]:
            disk.put(name, cell)
    return disk


def state_of(disk):
    return (disk.steps, disk.limit, [(name, disk.read(name), disk.synced(name)) for name in disk.all_files()])


class StepsTest(unittest.TestCase):
    def test_empty(self):
        disk = Disk()
        self.assertEqual((disk.steps, disk.limit, disk.all_files()), (0, None, []))

    def test_each_step(self):
        disk = Disk()
        self.assertIsNone(disk.put("b", 5))
        self.assertIsNone(disk.put("b", "x"))
        self.assertIsNone(disk.put("a", -1))
        self.assertEqual(state_of(disk), (3, None, [("a", [-1], 0), ("b", [5, "x"], 0)]))
        self.assertIsNone(disk.sync("b"))
        disk.put("b", 7)
        self.assertEqual(state_of(disk), (5, None, [("a", [-1], 0), ("b", [5, "x", 7], 2)]))
        disk.sync("b")
        self.assertEqual((disk.synced("b"), disk.length("b"), disk.steps), (3, 3, 6))
        disk.sync("b")
        self.assertEqual((disk.synced("b"), disk.steps), (3, 7))
        self.assertIsNone(disk.strike("a"))
        self.assertEqual(state_of(disk), (8, None, [("b", [5, "x", 7], 3)]))
        disk.put("a", 1)
        self.assertEqual(state_of(disk), (9, None, [("a", [1], 0), ("b", [5, "x", 7], 3)]))

    def test_cut(self):
        for length, synced in ((5, 3), (4, 3), (3, 3), (2, 2), (1, 1), (0, 0)):
            disk = disk_of(f=([1, 2, 3, 4, 5], 3))
            self.assertIsNone(disk.cut("f", length))
            self.assertEqual((disk.read("f"), disk.synced("f"), disk.steps), ([1, 2, 3, 4, 5][:length], synced, 7))
            disk.put("f", 9)
            self.assertEqual((disk.length("f"), disk.synced("f")), (length + 1, synced))

    def test_a_file_without_cells_is_there(self):
        disk = disk_of(f=([1], 0))
        disk.cut("f", 0)
        self.assertEqual((disk.all_files(), disk.read("f"), disk.length("f"), disk.synced("f")), (["f"], [], 0, 0))
        disk.sync("f")
        disk.strike("f")
        self.assertEqual(disk.all_files(), [])

    def test_no_file(self):
        disk = disk_of(f=([1, 2], 1))
        before = state_of(disk)
        for name in ("g", "", "F"):
            for call in (disk.sync, disk.strike, disk.read, disk.length, disk.synced):
                check_raises(self, NoFile, {"name": name}, call, name)
            check_raises(self, NoFile, {"name": name}, disk.cut, name, 0)
        self.assertEqual(state_of(disk), before)

    def test_results_are_new(self):
        disk = disk_of(f=([1, 2], 1))
        disk.read("f").append(3)
        disk.all_files().append("g")
        self.assertEqual(state_of(disk), (3, None, [("f", [1, 2], 1)]))


class LimitTest(unittest.TestCase):
    def test_limit(self):
        disk = disk_of(f=([1, 2], 1))
        disk.limit = 4
        self.assertEqual(disk.limit, 4)
        disk.put("f", 3)
        before = state_of(disk)
        for call in ((disk.put, "f", 4), (disk.put, "g", 4), (disk.sync, "f"), (disk.strike, "f"), (disk.cut, "f", 1)):
            check_raises(self, Fallen, {"steps": 4}, *call)
            self.assertEqual(state_of(disk), before)
        for call in ((disk.sync, "g"), (disk.strike, "g"), (disk.cut, "g", 1)):
            check_raises(self, NoFile, {"name": "g"}, *call)
        self.assertEqual((disk.read("f"), disk.length("f"), disk.synced("f")), ([1, 2, 3], 3, 1))

    def test_higher_limits(self):
        disk = disk_of(f=([1], 0))
        self.assertIsNone(disk.set_limit(1))
        check_raises(self, Fallen, {"steps": 1}, disk.put, "f", 2)
        self.assertIsNone(disk.set_limit(3))
        disk.put("f", 2)
        disk.sync("f")
        check_raises(self, Fallen, {"steps": 3}, disk.sync, "f")
        disk.limit = None
        self.assertIsNone(disk.limit)
        for cell in range(50):
            disk.put("f", cell)
        self.assertEqual((disk.steps, disk.synced("f")), (53, 2))

    def test_bad_limits(self):
        disk = disk_of(f=([1, 2, 3], 0))
        disk.limit = 5
        for limit in (2, 0, -1):
            check_raises(self, BadLimit, {"limit": limit}, disk.set_limit, limit)
            check_raises(self, BadLimit, {"limit": limit}, setattr, disk, "limit", limit)
            self.assertEqual(disk.limit, 5)
        for limit in (3, 4, 5, 999, None):
            disk.set_limit(limit)
            self.assertEqual(disk.limit, limit)

    def test_limit_of_no_step(self):
        disk = Disk()
        disk.limit = 0
        check_raises(self, Fallen, {"steps": 0}, disk.put, "f", 1)
        self.assertEqual(disk.all_files(), [])


class FallTest(unittest.TestCase):
    def test_what_is_left(self):
        disk = disk_of(f=([1, 2, 3, 4], 2), g=([5], 0), h=([6], 1))
        before = state_of(disk)
        for lengths, left in (
            ({}, ([1, 2], [], [6])), ({"f": 3}, ([1, 2, 3], [], [6])), ({"f": 4, "g": 1}, ([1, 2, 3, 4], [5], [6])),
            ({"f": 1, "g": 0, "h": 0}, ([1, 2], [], [6])), ({"f": -5, "g": -1}, ([1, 2], [], [6])),
            ({"f": 99, "g": 99, "h": 99}, ([1, 2, 3, 4], [5], [6])), ({"x": 3, "": 1}, ([1, 2], [], [6])),
        ):
            fallen = check_unchanged(self, disk.fall, lengths)
            self.assertIs(fallen.__class__, Disk)
            self.assertEqual(state_of(fallen), (0, None, [(name, cells, len(cells)) for name, cells in zip("fgh", left)]))
            self.assertEqual(state_of(disk), before)

    def test_the_new_disk_is_one_of_its_own(self):
        disk = disk_of(f=([1, 2], 1))
        disk.limit = 3
        fallen = disk.fall({"f": 2})
        fallen.put("f", 3)
        fallen.strike("f")
        self.assertEqual(state_of(disk), (3, 3, [("f", [1, 2], 1)]))
        self.assertEqual(state_of(fallen), (2, None, []))
        fallen = disk.fall({"f": 2})
        check_raises(self, Fallen, {"steps": 3}, disk.put, "f", 4)
        self.assertEqual(fallen.read("f"), [1, 2])

    def test_empty_disk(self):
        self.assertEqual(state_of(Disk().fall({"f": 1})), (0, None, []))

    def test_drawn_steps(self):
        dice = random.Random(71)
        for _ in range(60):
            disk, files, synced, steps = Disk(), {}, {}, 0
            for _ in range(30):
                name, kind = dice.choice("fgh"), dice.choice(("put", "put", "put", "sync", "strike", "cut"))
                if kind != "put" and name not in files:
                    continue
                steps += 1
                if kind == "put":
                    files.setdefault(name, []).append(steps)
                    synced.setdefault(name, 0)
                    disk.put(name, steps)
                elif kind == "sync":
                    synced[name] = len(files[name])
                    disk.sync(name)
                elif kind == "strike":
                    del files[name], synced[name]
                    disk.strike(name)
                else:
                    length = dice.randint(0, len(files[name]))
                    files[name] = files[name][:length]
                    synced[name] = min(synced[name], length)
                    disk.cut(name, length)
            self.assertEqual(state_of(disk), (steps, None, [(name, files[name], synced[name]) for name in sorted(files)]))
            choices = [range(-1, len(files[name]) + 2) for name in sorted(files)]
            for lengths in itertools.islice(itertools.product(*choices), 60):
                fallen = disk.fall(dict(zip(sorted(files), lengths)))
                for name, length in zip(sorted(files), lengths):
                    self.assertEqual(fallen.read(name), files[name][:max(length, synced[name])])
                    self.assertEqual(fallen.synced(name), fallen.length(name))


if __name__ == "__main__":
    unittest.main()
