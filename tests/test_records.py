import random
import unittest

from colonnade.disks import Disk
from colonnade.errors import Lost
from colonnade.records import Record, found_records, last_found, read_records

from tests.helpers import check_raises, check_unchanged
from tests.test_disks import state_of



def told(record):
    return (record.kind, record.moment, record.kept, list(record.files.items()))


def disk_with(records, files):
    """Return a disk with these records in its log, and files of these lengths."""
    disk = Disk()
    for record in records:
        for cell in record.written_cells():
            disk.put("log", cell)
    for name, length in files.items():
        disk.put(name, 0)
        for cell in range(1, length):
            disk.put(name, cell)
        disk.cut(name, length)
    return disk


FIRST = Record("start", 0, [0], {"t.a.0": 1, "t.*.0": 1})
SECOND = Record("commit", 1, [0, 1], {"t.a.0": 5, "t.*.0": 5})
THIRD = Record("deed", 1, (1,), {"t.a.1": 4, "t.*.0": 5})
FOURTH = Record("commit", 2, (1, 2), {"t.a.1": 4, "t.*.0": 5})


class RecordTest(unittest.TestCase):
    def test_attributes(self):
        kept, files = [0, 3, 7], {"t.b.10": 3, "t.*.2": 4, "*.w.0": 2, "t.b.9": 1}
        record = check_unchanged(self, Record, "deed", 7, kept, files)
        kept.append(9)
        files.clear()
        self.assertEqual(told(record), ("deed", 7, (0, 3, 7), [("*.w.0", 2), ("t.*.2", 4), ("t.b.10", 3), ("t.b.9", 1)]))
        self.assertIs(record.files.__class__, dict)

    def test_cells(self):
        self.assertEqual(FIRST.written_cells(), [9, "start", 0, 1, 0, 2, "t.*.0", 1, "t.a.0", 1])
        self.assertEqual(SECOND.written_cells(), [10, "commit", 1, 2, 0, 1, 2, "t.*.0", 5, "t.a.0", 5])
        self.assertEqual(Record("any", 5, [], {}).written_cells(), [4, "any", 5, 0, 0])
        FIRST.written_cells().append(5)
        self.assertEqual(len(FIRST.written_cells()), 10)

    def test_there_and_back(self):
        cells = []
        records = [FIRST, SECOND, THIRD, FOURTH]
        for record in records:
            cells += record.written_cells()
        found = check_unchanged(self, read_records, cells)
        self.assertEqual([told(record) for record in found], [told(record) for record in records])
        self.assertTrue(all(record.__class__ is Record for record in found))

    def test_records_cut_in_their_midst(self):
        cells, ends = [], []
        for record in (FIRST, SECOND, THIRD):
            cells += record.written_cells()
            ends.append(len(cells))
        for length in range(len(cells) + 1):
            found = read_records(cells[:length])
            self.assertEqual(len(found), len([end for end in ends if end <= length]))
        self.assertEqual(read_records([]), [])

    def test_drawn_records(self):
        dice = random.Random(72)
        cells, records = [], []
        for _ in range(40):
            kept = sorted(dice.sample(range(50), dice.randint(1, 9)))
            files = {f"{dice.choice('tuv')}.{dice.choice('abc*')}.{dice.randint(0, 12)}": dice.randint(1, 99)
                     for _ in range(dice.randint(1, 9))}
            records.append(Record(dice.choice(("start", "commit", "deed")), kept[-1], kept, files))
            cells += records[-1].written_cells()
        self.assertEqual([told(record) for record in read_records(cells)], [told(record) for record in records])


class FoundTest(unittest.TestCase):
    def found(self, records, files):
        disk = disk_with(records, files)
        before = state_of(disk)
        numbers = found_records(disk)
        if numbers:
            self.assertEqual(last_found(disk), numbers[-1])
        else:
            check_raises(self, Lost, {}, last_found, disk)
        self.assertEqual(state_of(disk), before)
        return numbers

    def test_no_log(self):
        self.assertEqual(found_records(Disk()), [])
        check_raises(self, Lost, {}, last_found, Disk())
        self.assertEqual(self.found([], {"t.a.0": 5, "t.*.0": 5}), [])

    def test_files_that_are_not_there_or_too_short(self):
        records = [FIRST, SECOND, THIRD, FOURTH]
        for files, numbers in (
            ({"t.a.0": 5, "t.*.0": 5, "t.a.1": 4}, [0, 1, 2, 3]), ({"t.a.0": 9, "t.*.0": 9, "t.a.1": 9}, [0, 1, 2, 3]),
            ({"t.a.0": 4, "t.*.0": 5, "t.a.1": 4}, [0, 2, 3]), ({"t.a.0": 5, "t.*.0": 4, "t.a.1": 4}, [0]),
            ({"t.a.0": 5, "t.*.0": 5, "t.a.1": 3}, [0, 1]), ({"t.a.0": 5, "t.*.0": 5}, [0, 1]),
            ({"t.*.0": 5, "t.a.1": 4}, [2, 3]), ({"t.*.0": 5}, []), ({"t.a.0": 0, "t.*.0": 5}, []), ({}, []),
            ({"t.a.0": 1, "t.*.0": 1}, [0]),
        ):
            self.assertEqual(self.found(records, files), numbers)
            self.assertEqual(self.found(records[:2], files), [number for number in numbers if number < 2])

    def test_records_cut_in_their_midst(self):
        files = {"t.a.0": 5, "t.*.0": 5, "t.a.1": 4}
        whole = disk_with([FIRST, SECOND, THIRD, FOURTH], files)
        ends = [len(read_records(whole.read("log")[:length])) for length in range(whole.length("log") + 1)]
        for length in range(whole.length("log"), -1, -1):
            whole.cut("log", length)
            self.assertEqual(found_records(whole), list(range(ends[length])))

    def test_an_empty_log(self):
        disk = disk_with([FIRST], {"t.a.0": 1, "t.*.0": 1})
        disk.cut("log", 0)
        self.assertEqual(found_records(disk), [])
        check_raises(self, Lost, {}, last_found, disk)

    def test_files_of_no_cells(self):
        record = Record("start", 0, [0], {"f": 0})
        self.assertEqual(self.found([record], {}), [])
        self.assertEqual(self.found([record], {"f": 0}), [0])


if __name__ == "__main__":
    unittest.main()
