"""Reading: texts of filters and questions."""

from colonnade.errors import TooMany, Unread
from colonnade.filters import Compare, Every, Opposite, Pair, Some, Within
from colonnade.questions import Question
from colonnade.values import LETTERS, domain_of, is_integer_from, is_name, is_value

FIGURES = "0123456789"
# Of two signs that fit, the longer one stands first.
SIGNS = ("<>", "<=", ">=", "=", "<", ">")
WHATS = ("distinct", "least", "greatest", "sum")
# Nine figures and a minus sign: no value, and no number behind `first` or `at`, is longer.
LONGEST_NUMBER = 10
GREATEST_FIRST = 999
MOST_CHOICES = 8


def _stretch_end(text, start, letters):
    end = start
    while end < len(text) and text[end] in letters:
        end += 1
    return end


def _word_end(text, start):
    """Return where the word that begins at a place ends, or that place or 0 if none does."""
    if text[start] in "(),":
        return start + 1
    if text[start] == "'":
        return text.find("'", start + 1) + 1
    for sign in SIGNS:
        if text[start:start + len(sign)] == sign:
            return start + len(sign)
    if text[start] == "-":
        end = _stretch_end(text, start + 1, FIGURES)
        return end if end > start + 1 else start
    return _stretch_end(text, start, FIGURES if text[start] in FIGURES else LETTERS)


def split_words(text):
    """Return the list of the words of a text."""
    words = []
    at = 0
    while at < len(text):
        if text[at] == " ":
            at += 1
            continue
        end = _word_end(text, at)
        if end <= at:
            raise Unread(len(words))
        words.append(text[at:end])
        at = end
    return words


def _number_of(word):
    """Return the integer that a word writes in the one right way, or None."""
    if word[-1:] not in FIGURES or not 1 <= len(word) <= LONGEST_NUMBER:
        return None
    return int(word) if str(int(word)) == word else None


def _value_of(word):
    """Return the value that a word writes, or None."""
    if word[:1] == "'":
        return word[1:-1] if is_value("word", word[1:-1]) else None
    number = _number_of(word)
    return number if is_value("number", number) else None


class Reader:
    """Goes along the words of a text, and refuses the first one that cannot stand there."""

    def __init__(self, words):
        self.words = words
        self.at = 0
        self.most_choices = 0

    def word(self):
        """Return the word at hand, or the empty string behind the last one."""
        return self.words[self.at] if self.at < len(self.words) else ""

    def skips(self, word):
        """Tell whether this is the word at hand; go on if it is."""
        if self.word() != word:
            return False
        self.at += 1
        return True

    def take(self, word):
        """Go on behind this word, which must stand here."""
        if not self.skips(word):
            raise Unread(self.at)

    def take_name(self):
        """Return the name that must stand here, and go on."""
        word = self.word()
        if not is_name(word):
            raise Unread(self.at)
        self.at += 1
        return word

    def take_sign(self):
        """Return the sign that must stand here, and go on."""
        word = self.word()
        if word not in SIGNS:
            raise Unread(self.at)
        self.at += 1
        return word

    def take_value(self):
        """Return the value that must stand here, and go on."""
        value = _value_of(self.word())
        if value is None:
            raise Unread(self.at)
        self.at += 1
        return value

    def take_number(self, least):
        """Return the number from the least one to 999 that must stand here, and go on."""
        number = _number_of(self.word())
        if not is_integer_from(number, least, GREATEST_FIRST):
            raise Unread(self.at)
        self.at += 1
        return number

    def take_end(self):
        """Refuse any further word."""
        if self.at < len(self.words):
            raise Unread(self.at)


def _read_choices(reader):
    reader.take("(")
    choices = [reader.take_value()]
    while reader.skips(","):
        at = reader.at
        choices.append(reader.take_value())
        if domain_of(choices[-1]) != domain_of(choices[0]):
            raise Unread(at)
    reader.take(")")
    reader.most_choices = max(reader.most_choices, len(choices))
    return choices


def _read_single(reader):
    if reader.skips("not"):
        return Opposite(_read_single(reader))
    if reader.skips("("):
        test = _read_some(reader)
        reader.take(")")
        return test
    column = reader.take_name()
    if reader.skips("in"):
        return Within(column, _read_choices(reader))
    sign = reader.take_sign()
    if is_name(reader.word()):
        return Pair(column, sign, reader.take_name())
    return Compare(column, sign, reader.take_value())


def _read_every(reader):
    parts = [_read_single(reader)]
    while reader.skips("and"):
        parts.append(_read_single(reader))
    return parts[0] if len(parts) == 1 else Every(parts)


def _read_some(reader):
    parts = [_read_every(reader)]
    while reader.skips("or"):
        parts.append(_read_every(reader))
    return parts[0] if len(parts) == 1 else Some(parts)


def read_filter(text):
    """Return the filter that a text writes."""
    reader = Reader(split_words(text))
    test = _read_some(reader)
    reader.take_end()
    if reader.most_choices > MOST_CHOICES:
        raise TooMany("in")
    return test


def _read_column(reader):
    return reader.take_name()


def _read_item(reader):
    if reader.skips("count"):
        return ("count", "")
    for what in WHATS:
        if reader.skips(what):
            return (what, reader.take_name())
    return ("column", reader.take_name())


def _read_key(reader):
    what, column = _read_item(reader)
    return (what, column, reader.skips("down"))


def _read_list(reader, read_one):
    found = [read_one(reader)]
    while reader.skips(","):
        found.append(read_one(reader))
    return found


def _read_joins(reader):
    """Return the joined tables, and the pairs of columns."""
    tables = []
    joins = []
    while reader.skips("join"):
        tables.append(reader.take_name())
        reader.take("on")
        first = reader.take_name()
        reader.take("=")
        joins.append((first, reader.take_name()))
    return (tables, joins)


def _check_lengths(lengths):
    for part, many, most in lengths:
        if many > most:
            raise TooMany(part)


def read_question(text, shapes):
    """Return the question that a text writes."""
    reader = Reader(split_words(text))
    reader.take("from")
    first = reader.take_name()
    tables, joins = _read_joins(reader)
    tests = [_read_some(reader)] if reader.skips("where") else []
    groups = _read_list(reader, _read_column) if reader.skips("group") else []
    reader.take("tell")
    tells = _read_list(reader, _read_item)
    sorts = _read_list(reader, _read_key) if reader.skips("order") else []
    most = reader.take_number(1) if reader.skips("first") else None
    moment = reader.take_number(0) if reader.skips("at") else None
    reader.take_end()
    _check_lengths([
        ("join", len(joins), 2), ("in", reader.most_choices, MOST_CHOICES), ("group", len(groups), 3),
        ("tell", len(tells), 6), ("order", len(sorts), 3),
    ])
    return Question(shapes, [first, *tables], joins, tests, groups, tells, sorts, most, moment)
