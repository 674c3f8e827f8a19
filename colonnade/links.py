"""Links: how a list of integers is parted into own numbers and inner numbers."""

from colonnade.errors import BadCells, BadChain

MOST_NUMBERS = 999


def _counted_own(cells):
    """Return how many own numbers stand in front if the first one counts the others."""
    if not cells or cells[0] < 1 or len(cells) <= cells[0]:
        raise BadCells()
    return cells[0] + 1


def _check_counted(own):
    if not own or own[0] < 1 or own[0] != len(own) - 1:
        raise BadCells()


def _check_plain_inner(inner, most):
    if not 1 <= len(inner) <= most:
        raise BadCells()


class Link:
    """A link that leaves the list as it is; the base class of the others."""

    NAME = ""
    KEEPS = "value"

    def parted(self, numbers):
        """Return the own numbers and the inner numbers of a list."""
        return ([], list(numbers))

    def own_count(self, cells):
        """Return how many own numbers stand at the beginning of the cells."""
        return 0

    def inner_count(self, own, count):
        """Return how many inner numbers a list of so many numbers has."""
        return count

    def joined(self, own, inner):
        """Return the list of 1 to 999 integers with these own and inner numbers."""
        return self.joined_upto(own, inner, MOST_NUMBERS)

    def joined_upto(self, own, inner, most):
        """Return the list of 1 to `most` integers with these own and inner numbers."""
        _check_plain_inner(inner, most)
        if own:
            raise BadCells()
        return list(inner)


class Runs(Link):
    """Parts a list into the lengths of its runs and what they repeat."""

    NAME = "runs"
    KEEPS = "value"

    def parted(self, numbers):
        """Return the number of runs with their lengths, and what each run repeats."""
        lengths = []
        repeated = []
        for number in numbers:
            if repeated and repeated[-1] == number:
                lengths[-1] += 1
            else:
                repeated.append(number)
                lengths.append(1)
        return ([len(lengths)] + lengths, repeated)

    def own_count(self, cells):
        """Return how many own numbers stand at the beginning of the cells."""
        return _counted_own(cells)

    def inner_count(self, own, count):
        """Return the number of runs."""
        return own[0]

    def joined(self, own, inner):
        """Return the list of 1 to 999 integers with these own and inner numbers."""
        return self.joined_upto(own, inner, MOST_NUMBERS)

    def joined_upto(self, own, inner, most):
        """Return the list of 1 to `most` integers with these own and inner numbers."""
        _check_counted(own)
        lengths = own[1:]
        # The sum is looked at before anything is repeated: lengths may be huge.
        if len(inner) != own[0] or min(lengths) < 1 or sum(lengths) > most:
            raise BadCells()
        if any([one == other for one, other in zip(inner, inner[1:])]):
            raise BadCells()
        return [number for number, length in zip(inner, lengths) for _ in range(length)]


class Steps(Link):
    """Parts a list into nothing and its differences."""

    NAME = "steps"
    KEEPS = "none"

    def parted(self, numbers):
        """Return no own numbers, and the first number with the steps to the others."""
        return ([], [numbers[0]] + [other - one for one, other in zip(numbers, numbers[1:])])

    def own_count(self, cells):
        """Return how many own numbers stand at the beginning of the cells."""
        return 0

    def inner_count(self, own, count):
        """Return how many inner numbers a list of so many numbers has."""
        return count

    def joined(self, own, inner):
        """Return the list of 1 to 999 integers with these own and inner numbers."""
        return self.joined_upto(own, inner, MOST_NUMBERS)

    def joined_upto(self, own, inner, most):
        """Return the list of 1 to `most` integers with these own and inner numbers."""
        _check_plain_inner(inner, most)
        if own:
            raise BadCells()
        numbers = []
        last = 0
        for step in inner:
            last += step
            numbers.append(last)
        return numbers


class Base(Link):
    """Parts a list into its least number and the distances from it."""

    NAME = "base"
    KEEPS = "distance"

    def parted(self, numbers):
        """Return the least number, and each number minus it."""
        least = min(numbers)
        return ([least], [number - least for number in numbers])

    def own_count(self, cells):
        """Return how many own numbers stand at the beginning of the cells."""
        if not cells:
            raise BadCells()
        return 1

    def inner_count(self, own, count):
        """Return how many inner numbers a list of so many numbers has."""
        return count

    def joined(self, own, inner):
        """Return the list of 1 to 999 integers with these own and inner numbers."""
        return self.joined_upto(own, inner, MOST_NUMBERS)

    def joined_upto(self, own, inner, most):
        """Return the list of 1 to `most` integers with these own and inner numbers."""
        _check_plain_inner(inner, most)
        if len(own) != 1 or min(inner) != 0:
            raise BadCells()
        return [number + own[0] for number in inner]


class Pick(Link):
    """Parts a list into its different numbers and the index of each number among them."""

    NAME = "pick"
    KEEPS = "order"

    def parted(self, numbers):
        """Return the count of different numbers with these, and the index of each number."""
        different = sorted(set(numbers))
        places = {number: at for at, number in enumerate(different)}
        return ([len(different)] + different, [places[number] for number in numbers])

    def own_count(self, cells):
        """Return how many own numbers stand at the beginning of the cells."""
        return _counted_own(cells)

    def inner_count(self, own, count):
        """Return how many inner numbers a list of so many numbers has."""
        return count

    def joined(self, own, inner):
        """Return the list of 1 to 999 integers with these own and inner numbers."""
        return self.joined_upto(own, inner, MOST_NUMBERS)

    def joined_upto(self, own, inner, most):
        """Return the list of 1 to `most` integers with these own and inner numbers."""
        _check_plain_inner(inner, most)
        _check_counted(own)
        different = own[1:]
        if any([one >= other for one, other in zip(different, different[1:])]):
            raise BadCells()
        if sorted(set(inner)) != list(range(len(different))):
            raise BadCells()
        return [different[at] for at in inner]


def link_named(name):
    """Return a new link with this name."""
    for link in (Runs(), Steps(), Base(), Pick()):
        if link.NAME == name:
            return link
    raise BadChain(name)
