"""The errors that the program raises, each with what it is about."""


class ColonnadeError(ValueError):
    """The base class of all errors here; never raised itself."""


class NoRelation(ColonnadeError):
    """A name is no relation."""

    def __init__(self, name):
        self.name = name


class BadName(ColonnadeError):
    """A text is not a name, or no known deed."""

    def __init__(self, name):
        self.name = name


class BadValue(ColonnadeError):
    """It is no value of the domain, or of any."""

    def __init__(self, value):
        self.value = value


class BadDomain(ColonnadeError):
    """There is no such domain."""

    def __init__(self, domain):
        self.domain = domain


class Unfit(ColonnadeError):
    """The end of a chain cannot hold the numbers."""

    def __init__(self, chain):
        self.chain = chain


class BadCells(ColonnadeError):
    """No list of so many numbers has these cells."""


class BadChain(ColonnadeError):
    """A text is no chain, or names no link."""

    def __init__(self, text):
        self.text = text


class BadRoom(ColonnadeError):
    """A room is not within its bounds."""

    def __init__(self, room):
        self.room = room


class BadCode(ColonnadeError):
    """A code is not within its bounds."""

    def __init__(self, code):
        self.code = code


class Twice(ColonnadeError):
    """Something stands for the second time."""

    def __init__(self, name):
        self.name = name


class Full(ColonnadeError):
    """A book has no entry or no code left for a value."""

    def __init__(self, value):
        self.value = value


class BadBook(ColonnadeError):
    """The code of a placed value does not ascend."""

    def __init__(self, value):
        self.value = value


class NoValue(ColonnadeError):
    """A book does not have the value."""

    def __init__(self, value):
        self.value = value


class NoCode(ColonnadeError):
    """A book does not have the code."""

    def __init__(self, code):
        self.code = code


class NoPlace(ColonnadeError):
    """There is no code between the neighbours of a rank."""

    def __init__(self, rank):
        self.rank = rank


class NoRoom(ColonnadeError):
    """A room is too small for the entries of a book."""

    def __init__(self, room):
        self.room = room


class Mismatch(ColonnadeError):
    """Two things do not belong together."""

    def __init__(self, first, second):
        self.first = first
        self.second = second


class BadShape(ColonnadeError):
    """A table, or the list of tables, has a wrong size."""

    def __init__(self, table):
        self.table = table


class NeedsBook(ColonnadeError):
    """A column of words has no book."""

    def __init__(self, column):
        self.column = column


class NoTable(ColonnadeError):
    """There is no such table."""

    def __init__(self, name):
        self.name = name


class NoColumn(ColonnadeError):
    """There is no such column here."""

    def __init__(self, name):
        self.name = name


class NoBook(ColonnadeError):
    """There is no such book."""

    def __init__(self, name):
        self.name = name


class Unread(ColonnadeError):
    """A text is not a question from this word on."""

    def __init__(self, at):
        self.at = at


class TooMany(ColonnadeError):
    """Something would have too many parts."""

    def __init__(self, part):
        self.part = part


class BadConstant(ColonnadeError):
    """A column is compared with a value of another domain."""

    def __init__(self, column):
        self.column = column


class BadItem(ColonnadeError):
    """An item cannot be told of this column here."""

    def __init__(self, what, column):
        self.what = what
        self.column = column


class TooHeavy(ColonnadeError):
    """A test has too great a weight."""

    def __init__(self, weight):
        self.weight = weight


class NoSlip(ColonnadeError):
    """No step of this stage can go wrong."""

    def __init__(self, book, stage):
        self.book = book
        self.stage = stage


class BadRow(ColonnadeError):
    """A row does not suit its table."""

    def __init__(self, table, at):
        self.table = table
        self.at = at


class RuleRefused(ColonnadeError):
    """A rule is not allowed for a plan."""

    def __init__(self, rule):
        self.rule = rule


class NotKept(ColonnadeError):
    """A moment is not kept."""

    def __init__(self, moment):
        self.moment = moment


class NotSeen(ColonnadeError):
    """A place is not seen now."""

    def __init__(self, table, place):
        self.table = table
        self.place = place


class NoBlock(ColonnadeError):
    """There is no such block."""

    def __init__(self, at):
        self.at = at


class BadSizes(ColonnadeError):
    """The sizes do not suit the places of a table."""

    def __init__(self, table):
        self.table = table


class Unlike(ColonnadeError):
    """Another book has another domain or other values."""

    def __init__(self, book):
        self.book = book


class BadOrder(ColonnadeError):
    """An order does not have each place exactly once."""

    def __init__(self, table):
        self.table = table


class BadMoments(ColonnadeError):
    """These moments cannot be those that stay kept."""

    def __init__(self, moments):
        self.moments = moments


class NoCarry(ColonnadeError):
    """Something cannot be carried, because of a book."""

    def __init__(self, book):
        self.book = book


class NoFile(ColonnadeError):
    """There is no such file."""

    def __init__(self, name):
        self.name = name


class BadLimit(ColonnadeError):
    """A limit is less than the steps so far."""

    def __init__(self, limit):
        self.limit = limit


class Fallen(ColonnadeError):
    """A step would go beyond the limit of a disk."""

    def __init__(self, steps):
        self.steps = steps


class Lost(ColonnadeError):
    """No record is found on a disk."""


class StillNeeded(ColonnadeError):
    """A possible record needs the file."""

    def __init__(self, name, record):
        self.name = name
        self.record = record
