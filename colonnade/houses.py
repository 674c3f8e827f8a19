"""Houses: stores that are kept on disks, so that little is lost when the disk falls."""

from colonnade.deeds import perform
from colonnade.disks import Disk
from colonnade.errors import NoFile, StillNeeded
from colonnade.parts import book_part, edition_of, entries_cells, part_of, store_cells, table_cells
from colonnade.records import LOG, Record, ends_of, last_found, log_records
from colonnade.stores import Store


def _newcomers(shapes, book, known, puts):
    """Return the values of a book that come with the rows put, in the order in which they come."""
    found = {}
    for table in shapes.tables:
        columns = shapes.columns_of(table)
        for row in puts.get(table, []):
            for column, value in zip(columns, row):
                if shapes.book_of(column) == book and value not in known:
                    found[value] = True
    return list(found)


class House:
    """A store and the disk on which it is kept."""

    def __init__(self, shapes, books):
        self.shapes = shapes
        self.disk = Disk()
        self.store = Store(shapes, books)
        self._log = []
        cells = {f"{part}.0": own for part, own in store_cells(self.store).items()}
        self._append("start", cells, {})
        for name in self.files_now():
            self.disk.sync(name)
        self.disk.sync(LOG)

    def take_over(self, disk, store):
        """Go on with another disk, whose last record tells of just this store."""
        self.disk = disk
        self.store = store
        self._log = log_records(disk)

    def _append(self, kind, cells, files):
        """Put cells behind those of some files, and then a record of these and of other files."""
        lengths = dict(files)
        for name, own in cells.items():
            for cell in own:
                self.disk.put(name, cell)
            lengths[name] = lengths.get(name, 0) + len(own)
        done = Record(kind, self.store.moment, self.store.kept, lengths)
        for cell in done.written_cells():
            self.disk.put(LOG, cell)
        self._log.append(done)

    def files_now(self):
        """Return the dict of the files of the last record and their lengths."""
        return dict(self._log[-1].files)

    def _append_commit(self, before, known, puts):
        """Append what is new behind a commit: `before` are the cells of the tables, `known` the books then."""
        names = {part_of(name): name for name in self.files_now()}
        added = {}
        for part, own in table_cells(self.store).items():
            added[names[part]] = own[len(before[part]):]
        for book in self.shapes.books:
            held = self.store.book_named(book)
            came = [(value, held.code_of(value)) for value in _newcomers(self.shapes, book, known[book], puts)]
            added[names[book_part(book)]] = entries_cells(came)
        self._append("commit", added, self.files_now())

    def commit(self, puts=None, strikes=None):
        """Make a commit of the store, write it, and return the new moment."""
        before = table_cells(self.store)
        known = self.store.books
        moment = self.store.commit(puts, strikes)
        self._append_commit(before, known, {} if puts is None else puts)
        return moment

    def restore(self, moment):
        """Restore a kept moment of the store, write it, and return the new moment."""
        before = table_cells(self.store)
        restored = self.store.restore(moment)
        self._append_commit(before, self.store.books, {})
        return restored

    def perform(self, deed, *arguments):
        """Do a deed to the store, write what it has changed to new files, and return its carry."""
        before = store_cells(self.store)
        carry = perform(self.store, deed, *arguments)
        self.sync()
        self._append_deed(before)
        return carry

    def _append_deed(self, before):
        """Write the parts whose cells were others before as new files, and a record."""
        files = self.files_now()
        edition = max([edition_of(name) for name in files]) + 1
        names = {part_of(name): name for name in files}
        written = {}
        for part, own in store_cells(self.store).items():
            if own != before[part]:
                del files[names[part]]
                written[f"{part}.{edition}"] = own
        self._append("deed", written, files)

    def _is_synced(self, name):
        return self.disk.synced(name) == self.disk.length(name)

    def sync(self, *names):
        """Sync these files, or without names all that are not wholly synced, the log last."""
        there = self.disk.all_files()
        for name in names:
            if name not in there:
                raise NoFile(name)
        wanted = list(names)
        if not names:
            wanted = [name for name in list(self.files_now()) + [LOG] if not self._is_synced(name)]
        for name in wanted:
            self.disk.sync(name)

    def strike(self, name):
        """Strike a file that no possible record has."""
        if name not in self.disk.all_files():
            raise NoFile(name)
        if name == LOG:
            raise StillNeeded(name, self.sure())
        for number in self.possible():
            if name in self._log[number].files:
                raise StillNeeded(name, number)
        self.disk.strike(name)

    def sure(self):
        """Return the number of the last record that is found after any fall."""
        return last_found(self.disk.fall({}))

    def written(self):
        """Return the number of the last record of the log."""
        return len(self._log) - 1

    def _may_lack(self, number, end):
        """Tell whether a fall may leave a record, but not the next one, with which the log ends at `end`."""
        if end > self.disk.synced(LOG):
            return True
        own = self._log[number].files
        for name, length in self._log[number + 1].files.items():
            if length > max(self.disk.synced(name), own.get(name, 0)):
                return True
        return False

    def possible(self):
        """Return the list of the records that some fall leaves as the last one that is found."""
        ends = ends_of(self._log)
        last = self.written()
        return [at for at in range(self.sure(), last + 1) if at == last or self._may_lack(at, ends[at + 1])]

    def unsure(self):
        """Return the list of the files of which the last record needs more than is synced, ascending."""
        needed = {**self.files_now(), LOG: ends_of(self._log)[-1]}
        return sorted([name for name, length in needed.items() if length > self.disk.synced(name)])
