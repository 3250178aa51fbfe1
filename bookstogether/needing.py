"""Which locks a statement needs."""

from bookstogether.answers import upserted
from bookstogether.errors import Ambiguous, ZeroDivisor
from bookstogether.lockneeds import read_needs, write_needs
from bookstogether.rows import altered
from bookstogether.searching import search
from bookstogether.shelves import BY_TABLE
from bookstogether.statements import is_question
from bookstogether.upserting import target
from bookstogether.worlds import group


def statement_needs(shelf, user, statement, road):
    """Return the needs of a statement of a user on a shelf as it stands, for its road."""
    word, table = statement[:2]
    if is_question(statement):
        return _reading(shelf, table, road, _found_pairs(shelf, user, statement, road))
    if word == "put":
        return _writing(shelf, table, shelf.heap.fresh, None, statement[2])
    if word == "upsert":
        return _upsert_needs(shelf, user, statement)
    pairs = _found_pairs(shelf, user, statement, BY_TABLE)
    needs = _reading(shelf, table, BY_TABLE, pairs)
    for number, old in pairs:
        needs.extend(_writing(shelf, table, number, old, _new_row(statement, old)))
    return needs


def _found_pairs(shelf, user, statement, road):
    """Return the pairs that a statement finds by a road, in order; by a summary, and if it is refused, none."""
    table, condition = statement[1:3]
    if road[0] == "summary":
        return []
    try:
        return shelf.passing(user, table, condition, shelf.candidates(table, road))
    except ZeroDivisor:
        return []


def _new_row(statement, old):
    """Return what a change or a remove makes of a row."""
    if statement[0] == "remove":
        return None
    column, value = statement[3:]
    return altered(old, column, value)


def _reading(shelf, table, road, pairs):
    """Return the needs of a reading that finds these pairs."""
    return read_needs(shelf.books.locks, table, road, [number for number, _ in pairs])


def _writing(shelf, table, number, old, new):
    """Return the needs of a writing from an old to a new row, of which one may be None."""
    nodes = [("index", index.name) for index in shelf.books.indexes.of_table(table) if _marks(shelf, index, old, new)]
    nodes.extend([("summary", name) for name in shelf.totals.changes(table, old, new)])
    keys = []
    for rule in shelf.world.rules_of(table):
        for row in (old, new):
            if row is not None and group(rule, row) is not None:
                keys.append(("key", rule[0], group(rule, row)))
    return write_needs(shelf.books.locks, table, number, nodes, keys)


def _marks(shelf, index, old, new):
    """Tell whether a writing marks the node of an index."""
    if shelf.books.locks.marks == "written":
        return shelf.entries.touches(index, old, new)
    return any([row is not None and index.holds(row) for row in (old, new)])


def _upsert_needs(shelf, user, statement):
    """Return the needs of an upsert."""
    _, table, asked, names, sets = statement
    needs = []
    lists = []
    for name in names:
        road, pairs = search(shelf, user, shelf.world.rule(name), asked)
        needs.extend(_reading(shelf, table, road, pairs))
        lists.append(pairs)
    try:
        pair = target(lists)
    except Ambiguous:
        return needs
    if pair is None:
        return needs + _writing(shelf, table, shelf.heap.fresh, None, asked)
    number, old = pair
    return needs + _writing(shelf, table, number, old, upserted(old, asked, sets))
