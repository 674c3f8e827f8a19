"""Recovery: a house from a disk that a fall has left."""

from colonnade.houses import House
from colonnade.parts import part_of, read_store
from colonnade.records import LOG, ends_of, last_found, log_records


def _store_of(disk, shapes, record):
    """Return the store of which a record tells that is found."""
    cells = {part_of(name): disk.read(name)[:length] for name, length in record.files.items()}
    return read_store(shapes, cells, record.moment, record.kept)


def _leave_only(disk, record, end):
    """Leave on the disk just what a record tells, in whose log it ends at `end`."""
    if disk.length(LOG) > end:
        disk.cut(LOG, end)
    for name, length in record.files.items():
        if disk.length(name) > length:
            disk.cut(name, length)
    others = [name for name in disk.all_files() if name != LOG and name not in record.files]
    for name in others:
        disk.strike(name)


def recover(disk, shapes):
    """Return a house with this disk, as the last record that is found on it tells."""
    number = last_found(disk)
    records = log_records(disk)
    store = _store_of(disk, shapes, records[number])
    _leave_only(disk, records[number], ends_of(records)[number])
    house = House(shapes, store.books)
    house.take_over(disk, store)
    return house
