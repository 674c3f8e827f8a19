"""What tests of houses use: a disk that notes its steps, what a house must write, and the falls of a disk."""

import itertools
from unittest import mock

from colonnade.deeds import perform
from colonnade.disks import Disk
from colonnade.houses import House
from colonnade.records import found_records, read_records
from colonnade.stores import Store


class NotingDisk(Disk):
    """A disk that notes each step that it has done."""

    def __init__(self):
        Disk.__init__(self)
        self.noted = []

    def put(self, name, cell):
        Disk.put(self, name, cell)
        self.noted.append(("put", name, cell))

    def sync(self, name):
        Disk.sync(self, name)
        self.noted.append(("sync", name))

    def strike(self, name):
        Disk.strike(self, name)
        self.noted.append(("strike", name))

    def cut(self, name, length):
        Disk.cut(self, name, length)
        self.noted.append(("cut", name, length))


def noting_house(shapes, books):
    """Return a house whose disk notes its steps."""
    with mock.patch("colonnade.houses.Disk", NotingDisk):
        return House(shapes, books)


def told_parts(store):
    """Return the dict from the parts of a store, in order, to their cells, as point 52 tells them."""
    parts = {}
    for table in store.shapes.tables:
        for column in store.shapes.columns_of(table):
            cells = ["column"]
            for many, block in zip(store.sizes(table), store.layout(table)):
                chain, written = block[column]
                cells += [many, chain, len(written)] + written
            parts[f"{table}.{column}"] = cells
        cells = ["toggles"]
        for moment, pairs in store.toggles(table):
            cells += [moment, len(pairs)] + [place for pair in pairs for place in pair]
        parts[f"{table}.*"] = cells
    for book in sorted(store.shapes.books):
        held = store.book_named(book)
        parts[f"*.{book}"] = ["book", held.room] + [cell for entry in held.entries for cell in entry]
    return parts


class Told:
    """The steps that a house must do, told by the words of point 52; the store is one beside it."""

    def __init__(self, shapes, books):
        self.store = Store(shapes, books)
        self.steps, self.files, self.synced, self.log = [], {}, {}, 0
        self.names = {part: f"{part}.0" for part in told_parts(self.store)}
        for part, cells in told_parts(self.store).items():
            self.put(self.names[part], cells)
        self.write_record("start")
        for name in [*sorted(self.names.values()), "log"]:
            self.sync(name)

    def put(self, name, cells):
        self.steps += [("put", name, cell) for cell in cells]
        self.files[name] = self.files.get(name, 0) + len(cells)

    def sync(self, name):
        self.steps.append(("sync", name))
        self.synced[name] = self.files[name]

    def write_record(self, kind):
        store = self.store
        cells = [kind, store.moment, len(store.kept), *store.kept, len(self.names)]
        for name in sorted(self.names.values()):
            cells += [name, self.files[name]]
        self.put("log", [len(cells), *cells])

    def commit(self, puts, strikes, moment=None):
        store = self.store
        before = told_parts(store)
        came = {name: [] for name in store.shapes.books}
        for table in store.shapes.tables:
            for row in (puts or {}).get(table, []):
                for column, value in zip(store.shapes.columns_of(table), row):
                    book = store.shapes.book_of(column)
                    if book and value not in store.book_named(book) and value not in came[book]:
                        came[book].append(value)
        if moment is None:
            store.commit(puts, strikes)
        else:
            store.restore(moment)
        after = told_parts(store)
        for part, cells in after.items():
            if not part.startswith("*"):
                self.put(self.names[part], cells[len(before[part]):])
        for book in sorted(came):
            held = store.book_named(book)
            self.put(self.names[f"*.{book}"], [cell for value in came[book] for cell in (value, held.code_of(value))])
        self.write_record("commit")

    def restore(self, moment):
        self.commit(None, None, moment)

    def perform(self, deed, *arguments):
        before = told_parts(self.store)
        carry = perform(self.store, deed, *arguments)
        for name in [*sorted(self.names.values()), "log"]:
            if self.synced.get(name, 0) < self.files[name]:
                self.sync(name)
        edition = 1 + max(int(name.split(".")[2]) for name in self.names.values())
        for part, cells in told_parts(self.store).items():
            if cells != before[part]:
                self.names[part] = f"{part}.{edition}"
                self.put(self.names[part], cells)
        self.write_record("deed")
        return carry


def thresholds(disk):
    """Return for each file the lengths, from the synced one on, around which what is found changes."""
    records = read_records(disk.read("log"))
    lengths = {name: {disk.synced(name), disk.length(name)} for name in disk.all_files()}
    end = 0
    for record in records:
        end += len(record.written_cells())
        lengths["log"] |= {end, end - 1}
        for name, length in record.files.items():
            if name in lengths:
                lengths[name] |= {length, length - 1}
    return {name: sorted(length for length in own if disk.synced(name) <= length <= disk.length(name))
            for name, own in lengths.items()}


def falls_of(disk, lengths=None):
    """Yield the disks that falls may leave, at all lengths or at these ones."""
    told = lengths or {name: range(disk.synced(name), disk.length(name) + 1) for name in disk.all_files()}
    for chosen in itertools.product(*told.values()):
        yield disk.fall(dict(zip(told, chosen)))


def possible_by_falls(disk, lengths=None):
    """Return the records that some fall leaves as the last one that is found, ascending; -1 if none is."""
    return sorted({(found_records(fallen) or [-1])[-1] for fallen in falls_of(disk, lengths)})


def files_of(disk):
    return {name: disk.read(name) for name in disk.all_files()}
