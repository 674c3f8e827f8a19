"""Small histories of stores, drawn from seeds, and a plain model that tells what a store must hold."""

from colonnade.books import Book
from colonnade.chains import Chain
from colonnade.deeds import perform_all
from colonnade.errors import Unfit
from colonnade.shapes import Shapes
from colonnade.stores import Store

from tests.asking import CHAINS

SHOP = Shapes([
    ("sales", [("city", "word", "places"), ("price", "number", "money"), ("many", "number", "")]),
    ("towns", [("town", "word", "places"), ("rent", "number", "money")]),
])
WORDS = ("b", "g", "m", "r", "x")
NUMBERS = (-2, 1, 4, 6, 9)


def shop_books(dice=None):
    """Return the books with which a store of these shapes begins."""
    if dice is None:
        return {"places": Book("word", 8), "money": Book("number", 8)}
    places = dice.choice((Book("word", 50), Book("word", 4), Book("word", 6, [("m", 3)]),
                          Book("word", 5, [("b", 7), ("x", 2)][dice.randint(0, 1):]), Book("word", 2, [("g", 9), ("r", 4)])))
    money = dice.choice((Book("number", 60), Book("number", 3), Book.counted(-2, 9, 20), Book("number", 30, [(4, 9)])))
    return {"places": places, "money": money}


def shop():
    """Return a store with three sales in two blocks, of which the first one is struck, and a town that is struck."""
    store = Store(SHOP, shop_books())
    store.commit({"sales": [("rome", 5, 1), ("oslo", 7, 2)], "towns": [("rome", 9)]})
    store.commit(None, {"sales": [0]})
    store.commit({"sales": [("bonn", 5, 3)]}, {"towns": [0]})
    return store


def row_for(dice, shapes, table):
    """Return a random row."""
    domains = [shapes.domain_of_column(column) for column in shapes.columns_of(table)]
    return tuple([dice.choice(WORDS if domain == "word" else NUMBERS) for domain in domains])


def commit_for(dice, store, most=3):
    """Return a random pair of puts and strikes that the store can do."""
    puts, strikes = {}, {}
    for table in store.shapes.tables:
        if dice.randint(0, 2):
            puts[table] = [row_for(dice, store.shapes, table) for _ in range(dice.randint(0, most))]
        seen = list(store.places_of(table).each_place())
        if seen and dice.randint(0, 1):
            strikes[table] = dice.sample(seen, dice.randint(0, min(2, len(seen))))
    return puts, strikes


class Model:
    """A store as points 42 to 45 tell it: for each place its row and the list of its toggles."""

    def __init__(self, shapes, books):
        self.shapes = shapes
        self.books = {name: books[name] for name in shapes.books}
        self.moment = 0
        self.kept = [0]
        self.rows = {table: [] for table in shapes.tables}
        self.toggles = {table: [] for table in shapes.tables}
        self.sizes = {table: [] for table in shapes.tables}

    def is_seen(self, table, place, moment):
        return len([at for at in self.toggles[table][place] if at <= moment]) % 2 == 1

    def seen(self, table, moment=None):
        at = self.moment if moment is None else moment
        return [place for place in range(len(self.rows[table])) if self.is_seen(table, place, at)]

    def rows_of(self, table, moment=None):
        return [self.rows[table][place] for place in self.seen(table, moment)]

    def step(self):
        self.moment += 1
        self.kept.append(self.moment)

    def commit(self, puts, strikes):
        self.step()
        for table in self.shapes.tables:
            for place in strikes.get(table, []):
                self.toggles[table][place].append(self.moment)
            rows = puts.get(table, [])
            self.sizes[table] += [len(rows)] if rows else []
            for row in rows:
                self.rows[table].append(row)
                self.toggles[table].append([self.moment])
                for column, value in zip(self.shapes.columns_of(table), row):
                    book = self.shapes.book_of(column)
                    if book:
                        self.books[book] = self.books[book] + value

    def restore(self, moment):
        changes = {table: sorted(set(self.seen(table)) ^ set(self.seen(table, moment))) for table in self.shapes.tables}
        self.commit({}, changes)

    def let_go(self, moments):
        self.kept = list(moments)
        for table in self.shapes.tables:
            for place, toggles in enumerate(self.toggles[table]):
                moved = [min(at for at in moments if at >= moment) for moment in toggles]
                self.toggles[table][place] = [at for at in sorted(set(moved)) if moved.count(at) % 2]

    def toggled(self, table):
        """Return the pairs of a moment and the places that are toggled at it."""
        found = {}
        for place, toggles in enumerate(self.toggles[table]):
            for moment in toggles:
                found.setdefault(moment, []).append(place)
        return sorted(found.items())


def check_like(case, store, model):
    """Check that a store holds what the model holds."""
    case.assertEqual((store.moment, store.kept), (model.moment, tuple(model.kept)))
    for name, book in model.books.items():
        held = store.book_named(name)
        case.assertEqual((held.entries, held.room, held.domain), (book.entries, book.room, book.domain))
    for table in store.shapes.tables:
        case.assertEqual(store.sizes(table), model.sizes[table])
        toggles = [(moment, [place for start, end in pairs for place in range(start, end)])
                   for moment, pairs in store.toggles(table)]
        case.assertEqual(toggles, model.toggled(table))
        for moment in [None, *model.kept]:
            case.assertEqual(store.rows_of(table, moment), model.rows_of(table, moment))
            case.assertEqual(list(store.places_of(table, moment).each_place()), model.seen(table, moment))


def state_of(store):
    """Return all that a store holds, as it can be read."""
    tables = store.shapes.tables
    return (
        store.moment, store.kept, [store.layout(table) for table in tables], [store.sizes(table) for table in tables],
        [store.toggles(table) for table in tables],
        [(name, store.book_named(name).entries, store.book_named(name).room) for name in store.shapes.books],
    )


def whole_rows(store, table):
    """Return the rows at all places of a table, tuples of values, read from the layout."""
    columns = {column: [] for column in store.shapes.columns_of(table)}
    for block, many in zip(store.layout(table), store.sizes(table)):
        for column, (chain, cells) in block.items():
            book = store.shapes.book_of(column)
            numbers = Chain(chain).read(cells, many)
            columns[column] += [store.book_named(book).value_of(code) for code in numbers] if book else numbers
    return list(zip(*columns.values()))


def other_book_for(dice, book):
    """Return a book with the same values and other codes, with or without strays."""
    values = [value for value, code in book.entries]
    room = dice.randint(1, 30)
    codes = dice.sample(range(40), len(values))
    placed = sorted(code for code in codes if code < room)
    slots = sorted(dice.sample(range(len(values)), len(placed)))
    free = [code for code in codes if code >= room]
    told = {slot: code for slot, code in zip(slots, placed)}
    return Book(book.domain, room, [(value, told[at] if at in told else free.pop()) for at, value in enumerate(values)])


def sizes_for(dice, many):
    """Return random sizes of blocks of so many places."""
    sizes = []
    while sum(sizes) < many:
        sizes.append(dice.randint(1, many - sum(sizes)))
    return sizes


def fits(chain, numbers):
    try:
        Chain(chain).write(numbers)
    except Unfit:
        return False
    return True


def moments_for(dice, store):
    """Return random moments that stay kept."""
    return sorted({*dice.sample(store.kept, dice.randint(0, len(store.kept))), store.moment})


def deed_for(dice, store):
    """Return the name of a deed and arguments, with which the store can do it."""
    table = dice.choice(store.shapes.tables)
    columns = store.shapes.columns_of(table)
    many = sum(store.sizes(table))
    deed = dice.choice(("recode", "cut", "rebook", "arrange", "sort", "sort codes", "gather", "let go"))
    if deed == "recode" and store.sizes(table):
        at, column = dice.randint(0, len(store.sizes(table)) - 1), dice.choice(columns)
        chain, cells = store.layout(table)[at][column]
        numbers = Chain(chain).read(cells, store.sizes(table)[at])
        return (deed, table, at, column, dice.choice([chain for chain in CHAINS if fits(chain, numbers)]))
    if deed == "rebook":
        book = dice.choice(store.shapes.books)
        return (deed, book, other_book_for(dice, store.book_named(book)))
    if deed == "arrange":
        return (deed, table, dice.sample(range(many), many))
    if deed in ("sort", "sort codes"):
        return (deed, table, *dice.sample(columns, dice.randint(0, len(columns))))
    if deed == "gather":
        return (deed, table, dice.randint(1, 4))
    if deed == "let go":
        return (deed, moments_for(dice, store))
    told = {column: dice.choice(CHAINS) for column in columns if dice.randint(0, 1)}
    return ("cut", table, sizes_for(dice, many), told)


def step_for(dice, store):
    """Return a random step of a history, as `perform_all` takes it."""
    kind = dice.randint(0, 5)
    if kind < 2 or not store.moment:
        return ("commit", *commit_for(dice, store))
    if kind == 2:
        return ("restore", dice.choice(store.kept))
    return deed_for(dice, store)


def store_behind(dice, steps, shapes=SHOP):
    """Return a store behind a random history of so many steps."""
    store = Store(shapes, shop_books(dice))
    for _ in range(steps):
        perform_all(store, [step_for(dice, store)])
    return store
