"""Records: what a log tells of the files of a store, and which of them are found on a disk."""

from colonnade.errors import Lost

LOG = "log"


class Record:
    """What was done, the moment and the kept moments behind it, and the files with their lengths."""

    def __init__(self, kind, moment, kept, files):
        self.kind = kind
        self.moment = moment
        self.kept = tuple(kept)
        self.files = {name: files[name] for name in sorted(files)}

    def written_cells(self):
        """Return the list of the cells of the record."""
        cells = [self.kind, self.moment, len(self.kept), *self.kept, len(self.files)]
        for name, length in self.files.items():
            cells.extend([name, length])
        return [len(cells), *cells]


def _read_one(cells):
    """Return the record with these cells, without the first one that counts them."""
    many = cells[2]
    told = cells[4 + many:]
    return Record(cells[0], cells[1], cells[3:3 + many], dict(zip(told[::2], told[1::2])))


def read_records(cells):
    """Return the list of the records all of whose cells are in the log."""
    records = []
    at = 0
    while at < len(cells) and at + cells[at] < len(cells):
        end = at + 1 + cells[at]
        records.append(_read_one(cells[at + 1:end]))
        at = end
    return records


def log_records(disk):
    """Return the list of the records all of whose cells are in the log of a disk, if there is one."""
    return read_records(disk.read(LOG)) if LOG in disk.all_files() else []


def ends_of(records):
    """Return for each record how many cells the log has up to its end."""
    ends = []
    end = 0
    for record in records:
        end += len(record.written_cells())
        ends.append(end)
    return ends


def lacking_files(disk, record):
    """Return the list of the files of a record that are not there or too short, ascending."""
    there = disk.all_files()
    return [name for name, length in record.files.items() if name not in there or disk.length(name) < length]


def found_records(disk):
    """Return the list of the numbers of the records that are found on a disk."""
    return [at for at, record in enumerate(log_records(disk)) if not lacking_files(disk, record)]


def last_found(disk):
    """Return the number of the last record that is found on a disk."""
    found = found_records(disk)
    if not found:
        raise Lost()
    return found[-1]
