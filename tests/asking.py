"""Shapes, rows, books, tests and questions for other tests; all random choices come from seeds."""

from colonnade.books import Book
from colonnade.chains import all_chains
from colonnade.coded import make_scene
from colonnade.codedly import STAGES
from colonnade.filters import Compare, Every, Opposite, Pair, Some, Within
from colonnade.needs import Needs
from colonnade.questions import Question
from colonnade.relations import RELATIONS
from colonnade.shapes import Shapes

SHAPES = Shapes([
    ("sales", [("city", "word", "places"), ("price", "number", "money"), ("cost", "number", "money"),
               ("many", "number", ""), ("day", "number", "days")]),
    ("shops", [("town", "word", "places"), ("owner", "word", "people"), ("rent", "number", "money"),
               ("floor", "number", "")]),
    ("staff", [("name", "word", "people"), ("home", "word", "places"), ("pay", "number", "")]),
])
CHAINS = tuple(all_chains())
NUMBERS = (-3, 0, 1, 2, 5, 7)
WORDS = ("a", "bonn", "oslo", "paris", "rome")
SIGNS = ("=", "<>", "<", "<=", ">", ">=")
WHATS = ("count", "distinct", "least", "greatest", "sum")


def values_for(domain):
    return NUMBERS if domain == "number" else WORDS


def rows_for(dice, shapes, most=4):
    """Return random rows of all tables."""
    return {
        table: [
            tuple([dice.choice(values_for(shapes.domain_of_column(name))) for name in shapes.columns_of(table)])
            for _ in range(dice.randint(0, most))
        ]
        for table in shapes.tables
    }


def book_keeping(dice, domain, relation):
    """Return a book with all values of the domain that keeps at most this relation."""
    values = list(values_for(domain))
    codes = sorted(dice.sample(range(20), len(values)))
    if relation == "same":
        codes = codes[:-2] + [codes[-1], codes[-2]]
        return Book(domain, 1, list(zip(values, [code + 1 for code in codes])))
    if relation == "order":
        codes[-1] = 25
        return Book(domain, 40, list(zip(values, codes)))
    if relation == "distance":
        return Book(domain, 40, [(value, value + 13) for value in values])
    return Book(domain, 40, [(value, value) for value in values if value >= 0])


def relations_for(domain):
    """Return the relations that a book with all values of the domain can keep at most."""
    return ("same", "order") if domain == "word" else RELATIONS[1:4]


def books_for(dice, shapes, relations=None):
    """Return a book for each name, with random relations where none are told."""
    told = relations or {}
    books = {}
    for name in shapes.books:
        domain = shapes.domain_of_book(name)
        books[name] = book_keeping(dice, domain, told.get(name) or dice.choice(relations_for(domain)))
    return books


def leaf_for(dice, shapes, columns):
    """Return a random leaf on some of the columns."""
    column = dice.choice(columns)
    domain = shapes.domain_of_column(column)
    kind = dice.randint(0, 3)
    if kind == 0:
        return Within(column, dice.sample(values_for(domain), dice.randint(1, 3)))
    if kind == 1:
        like = [name for name in columns if shapes.book_of(name) == shapes.book_of(column)]
        return Pair(column, dice.choice(SIGNS), dice.choice(like))
    return Compare(column, dice.choice(SIGNS), dice.choice(values_for(domain)))


def filter_for(dice, shapes, columns, depth=2):
    """Return a random filter on some of the columns."""
    kind = dice.randint(0, 5) if depth else 5
    if kind < 2:
        parts = [filter_for(dice, shapes, columns, depth - 1) for _ in range(dice.randint(2, 3))]
        return Every(parts) if kind == 0 else Some(parts)
    if kind == 2:
        return Opposite(filter_for(dice, shapes, columns, depth - 1))
    return leaf_for(dice, shapes, columns)


def joins_for(dice, shapes, tables):
    """Return a pair of columns for each further table."""
    joins = []
    for at, table in enumerate(tables[1:]):
        pairs = [(one, other) for front in tables[:at + 1] for one in shapes.columns_of(front)
                 for other in shapes.columns_of(table)
                 if shapes.domain_of_column(one) == shapes.domain_of_column(other)]
        joins.append(dice.choice(pairs))
    return joins


def item_for(dice, shapes, columns, groups, grouped):
    """Return a random pair (what, column) that may stand among the items or keys."""
    others = [name for name in columns if name not in groups]
    if not grouped:
        return ("column", dice.choice(columns))
    if groups and dice.randint(0, 2) == 0 or not others:
        return ("column", dice.choice(groups)) if groups else ("count", "")
    what = dice.choice(WHATS)
    if what == "count":
        return ("count", "")
    numbers = [name for name in others if shapes.domain_of_column(name) == "number"]
    if what == "sum" and not numbers:
        return ("distinct", dice.choice(others))
    return (what, dice.choice(numbers if what == "sum" else others))


def question_for(dice, shapes=SHAPES, joined=2):
    """Return a random question."""
    tables = dice.sample(shapes.tables, dice.randint(1, min(len(shapes.tables), joined + 1)))
    columns = [column for table in tables for column in shapes.columns_of(table)]
    tests = [filter_for(dice, shapes, columns) for _ in range(dice.randint(0, 2))]
    groups = dice.sample(columns, dice.randint(0, 2)) if dice.randint(0, 1) else []
    grouped = bool(groups) or dice.randint(0, 2) == 0
    tells = [item_for(dice, shapes, columns, groups, grouped) for _ in range(dice.randint(1, 3))]
    grouped = bool(groups) or any([what != "column" for what, column in tells])
    sorts = [(*item_for(dice, shapes, columns, groups, grouped), dice.randint(0, 1) == 1)
             for _ in range(dice.randint(0, 2))]
    most = dice.choice((None, None, 1, 2))
    return Question(shapes, tables, joins_for(dice, shapes, tables), tests, groups, tells, sorts, most, None)


def scene_for(dice, shapes=SHAPES, relations=None, most=4, lean=False):
    """Return a scene of random rows, in random blocks and chains, some of them not seen.

    The books of a lean scene have the values of its rows alone, as these came.
    """
    rows = rows_for(dice, shapes, most)
    columns = [column for table in shapes.tables for column in shapes.columns_of(table)]
    chains = {column: dice.choice(CHAINS) for column in columns}
    unseen = {table: [at for at in range(len(own)) if dice.randint(0, 3) == 0] for table, own in rows.items()}
    if lean:
        books = {name: Book(shapes.domain_of_book(name), 40) for name in shapes.books}
    else:
        books = books_for(dice, shapes, relations)
    return make_scene(shapes, books, rows, size=dice.randint(1, 4), chains=chains, unseen=unseen)


def openings_for(dice, question):
    """Return random openings, in time or not."""
    return {book: dice.choice(STAGES) for book in question.books_named()}


def openings_in_time(dice, question, kept):
    """Return random openings that are in time for the told relations."""
    latest = Needs(question).latest_openings(kept)
    return {book: STAGES[dice.randint(0, STAGES.index(stage))] for book, stage in latest.items()}
