"""Deeds: changes of how a store keeps its rows, each of which tells its carry."""

from colonnade.carries import Carry
from colonnade.chains import Chain
from colonnade.coded import Block, CodedColumn, fitting_column
from colonnade.errors import BadMoments, BadName, BadOrder, BadSizes, NoBlock, NoColumn, Unlike
from colonnade.merging import merge_order
from colonnade.moments import ever_seen, gone_toggles
from colonnade.stores import MOST_PLACES
from colonnade.values import is_integer_from


def _carry(store, places, codes):
    """Return a carry with these maps for the tables and books that change, and with no change for the others."""
    all_places = {table: list(range(store.many_places(table))) for table in store.shapes.tables}
    all_codes = {}
    for book in store.shapes.books:
        all_codes[book] = {code: code for value, code in store.book_named(book).entries}
    return Carry({**all_places, **places}, {**all_codes, **codes}, store.kept)


def _with_columns(block, changed):
    """Return the block with these coded columns in the place of its own ones."""
    return Block({name: changed.get(name) or block.column_named(name) for name in block.names})


def _set_blocks(store, table, blocks):
    store.blocks = {**store.blocks, table: tuple(blocks)}


def _check_columns(store, table, columns):
    for column in columns:
        if column not in store.shapes.columns_of(table):
            raise NoColumn(column)


def _all_numbers(store, table):
    """Return the dict from the columns of a table to their numbers at all places."""
    return {column: store.numbers_of(table, column) for column in store.shapes.columns_of(table)}


def _cut_blocks(numbers, sizes, chains):
    """Return blocks of these sizes; for each block, `chains` has a dict from columns to chains."""
    blocks = []
    start = 0
    for size, told in zip(sizes, chains):
        end = start + size
        blocks.append(Block({
            column: fitting_column(told.get(column, "plain"), own[start:end]) for column, own in numbers.items()
        }))
        start = end
    return blocks


def _moved_toggles(toggles, places):
    """Return the toggles of the new places, without moments at which none is toggled any more."""
    moved = [(moment, toggled.moved(places)) for moment, toggled in toggles]
    return tuple([(moment, toggled) for moment, toggled in moved if toggled.pairs])


def _take_order(store, table, order, sizes, chains):
    """Let just the old places in the list come in this order, in new blocks; return the new places."""
    places = [None] * store.many_places(table)
    for new, old in enumerate(order):
        places[old] = new
    numbers = {column: [own[place] for place in order] for column, own in _all_numbers(store, table).items()}
    _set_blocks(store, table, _cut_blocks(numbers, sizes, chains))
    store.toggled = {**store.toggled, table: _moved_toggles(store.toggled[table], places)}
    return places


def recode(store, table, block, column, chain):
    """Write a column of a block with another chain."""
    store.check_table(table)
    blocks = store.blocks[table]
    if not is_integer_from(block, 0, len(blocks) - 1):
        raise NoBlock(block)
    coded = CodedColumn(chain, blocks[block].column_named(column).numbers())
    changed = _with_columns(blocks[block], {column: coded})
    _set_blocks(store, table, [*blocks[:block], changed, *blocks[block + 1:]])
    return _carry(store, {}, {})


def cut(store, table, sizes, chains=None):
    """Divide the places of a table into blocks of these sizes."""
    store.check_table(table)
    if not all([is_integer_from(size, 1, MOST_PLACES) for size in sizes]) or sum(sizes) != store.many_places(table):
        raise BadSizes(table)
    told = {} if chains is None else chains
    for column in told:
        _check_columns(store, table, [column])
        Chain(told[column])
    _set_blocks(store, table, _cut_blocks(_all_numbers(store, table), sizes, [told] * len(sizes)))
    return _carry(store, {}, {})


def _rebooked_block(block, columns, codes):
    """Return the block with other codes in these columns; a column that does not change stays as it is."""
    changed = {}
    for name in columns:
        coded = block.column_named(name)
        old = coded.numbers()
        new = [codes[code] for code in old]
        if new != old:
            changed[name] = fitting_column(coded.chain, new)
    return _with_columns(block, changed)


def rebook(store, book, other):
    """Replace a book by another one with the same values."""
    old = store.book_named(book)
    values = [value for value, code in old.entries]
    if other.domain != old.domain or [value for value, code in other.entries] != values:
        raise Unlike(book)
    codes = {code: other.code_of(value) for value, code in old.entries}
    blocks = {}
    for table in store.shapes.tables:
        columns = [name for name in store.shapes.columns_of(table) if store.shapes.book_of(name) == book]
        blocks[table] = tuple([_rebooked_block(block, columns, codes) for block in store.blocks[table]])
    store.blocks = blocks
    store.books = {**store.books, book: other}
    return _carry(store, {}, {book: codes})


def _is_order(order, many):
    return all([is_integer_from(place, 0, many - 1) for place in order]) and sorted(order) == list(range(many))


def arrange(store, table, order):
    """Bring the rows of a table into another order, the list of the old places in the new order."""
    store.check_table(table)
    if not _is_order(order, store.many_places(table)):
        raise BadOrder(table)
    chains = [{name: block.column_named(name).chain for name in block.names} for block in store.blocks[table]]
    places = _take_order(store, table, order, store.sizes(table), chains)
    return _carry(store, {table: places}, {})


def _values_of(store, column, numbers):
    book = store.shapes.book_of(column)
    return [store.book_named(book).value_of(code) for code in numbers] if book else numbers


def _sorting_order(entries, many):
    """Return the order in which rows ascend by the entries of several columns."""
    return merge_order([tuple([own[at] for own in entries]) for at in range(many)])


def sort_table(store, table, *columns):
    """Arrange a table so that its rows ascend by the values of the columns."""
    store.check_table(table)
    _check_columns(store, table, columns)
    entries = [_values_of(store, column, store.numbers_of(table, column)) for column in columns]
    return arrange(store, table, _sorting_order(entries, store.many_places(table)))


def sort_by_codes(store, table, *columns):
    """Arrange a table so that its rows ascend by the codes of the columns, where these have books."""
    store.check_table(table)
    _check_columns(store, table, columns)
    entries = [store.numbers_of(table, column) for column in columns]
    return arrange(store, table, _sorting_order(entries, store.many_places(table)))


def _sizes_of(many, size):
    """Return the sizes of blocks of this size, the last one being possibly smaller."""
    return [min(size, many - start) for start in range(0, many, size)]


def gather(store, table, size):
    """Leave out the dead places of a table, and cut the others into blocks of a size."""
    store.check_table(table)
    if not is_integer_from(size, 1, MOST_PLACES):
        raise BadSizes(table)
    seen = ever_seen(store.toggled[table], store.kept)
    living = list(seen.each_place())
    sizes = _sizes_of(len(living), size)
    places = _take_order(store, table, living, sizes, [{}] * len(sizes))
    return _carry(store, {table: places}, {})


def _can_stay(store, moments):
    ascending = all([one < other for one, other in zip(moments, moments[1:])])
    known = all([is_integer_from(moment, 0, store.moment) and moment in store.kept for moment in moments])
    return known and ascending and store.moment in moments


def let_go(store, moments):
    """Let all moments go but these."""
    if not _can_stay(store, moments):
        raise BadMoments(list(moments))
    toggled = {}
    for table, toggles in store.toggled.items():
        toggled[table] = tuple(gone_toggles(toggles, moments))
    store.toggled = toggled
    store.kept = tuple(moments)
    return _carry(store, {}, {})


DEEDS = {
    "recode": recode, "cut": cut, "rebook": rebook, "arrange": arrange, "sort": sort_table,
    "sort codes": sort_by_codes, "gather": gather, "let go": let_go,
}


def perform(store, deed, *arguments):
    """Do the deed with this name."""
    if deed not in DEEDS:
        raise BadName(deed)
    action = DEEDS[deed]
    return action(store, *arguments)


def _done(store, step):
    if step[0] == "commit":
        return store.commit(step[1], step[2])
    if step[0] == "restore":
        return store.restore(step[1])
    arguments = step[1:]
    return perform(store, step[0], *arguments)


def perform_all(store, steps):
    """Do commits, restorings and deeds one after the other, or, if one raises an error, none of them."""
    with store.trial() as held:
        done = [_done(held, step) for step in steps]
    return done
