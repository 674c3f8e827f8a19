"""Bridges: from the codes of one book to those of another."""

from colonnade.errors import Mismatch
from colonnade.relations import kept_by


class Bridge:
    """Leads the codes of one book to the codes of the same values in another one."""

    def __init__(self, first, second):
        if first.domain != second.domain:
            raise Mismatch(first.domain, second.domain)
        self._first = first
        self._second = second
        shared = [(code, second.code_of(value)) for value, code in first.entries if value in second]
        self.pairs = tuple(sorted(shared))

    @property
    def keeps(self):
        """What the pairs of codes keep at most."""
        return kept_by(self.pairs)

    def __call__(self, code):
        value = self._first.value_of(code)
        return self._second.code_of(value) if value in self._second else None

    def back(self):
        """Return the bridge from the second book to the first one."""
        return Bridge(self._second, self._first)
