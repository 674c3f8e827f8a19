"""Disks: files of cells that may fall, so that only beginnings of them are left."""

from colonnade.errors import BadLimit, Fallen, NoFile


class Disk:
    """Files of cells, of which the first ones are synced, and a count of the steps."""

    def __init__(self):
        self.steps = 0
        self._limit = None
        self._files = {}
        self._synced = {}

    @property
    def limit(self):
        """The greatest number of steps, or None."""
        return self._limit

    @limit.setter
    def limit(self, value):
        if value is not None and value < self.steps:
            raise BadLimit(value)
        self._limit = value

    def set_limit(self, limit):
        """Assign the limit."""
        self.limit = limit

    def _check_file(self, name):
        if name not in self._files:
            raise NoFile(name)

    def _step(self):
        if self._limit is not None and self.steps >= self._limit:
            raise Fallen(self.steps)
        self.steps += 1

    def put(self, name, cell):
        """Put a cell behind the last one of a file."""
        self._step()
        if name not in self._files:
            self._files[name] = []
            self._synced[name] = 0
        self._files[name].append(cell)

    def sync(self, name):
        """Make all cells of a file synced."""
        self._check_file(name)
        self._step()
        self._synced[name] = len(self._files[name])

    def strike(self, name):
        """Let a file be no longer there."""
        self._check_file(name)
        self._step()
        del self._files[name]
        del self._synced[name]

    def cut(self, name, length):
        """Leave only the first cells of a file."""
        self._check_file(name)
        self._step()
        self._files[name] = self._files[name][:length]
        self._synced[name] = min(self._synced[name], length)

    def read(self, name):
        """Return the list of the cells of a file."""
        self._check_file(name)
        return list(self._files[name])

    def length(self, name):
        """Return the number of the cells of a file."""
        self._check_file(name)
        return len(self._files[name])

    def synced(self, name):
        """Return the number of the synced cells of a file."""
        self._check_file(name)
        return self._synced[name]

    def all_files(self):
        """Return the ascending list of the files."""
        return sorted(self._files)

    def _take(self, name, cells):
        """Let a file have these cells, all of them synced, without a step."""
        self._files[name] = list(cells)
        self._synced[name] = len(cells)

    def fall(self, lengths):
        """Return the disk that a fall leaves, with so many cells of the files, as far as may be."""
        left = Disk()
        for name in self.all_files():
            cells = self.read(name)
            synced = self.synced(name)
            left._take(name, cells[:max(synced, lengths.get(name, synced))])
        return left
