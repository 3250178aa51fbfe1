"""What a statement reads and writes on a heap, and whether two statements commute."""

from bookstogether.answers import upserted
from bookstogether.conditions import truth
from bookstogether.errors import ZeroDivisor
from bookstogether.rows import altered
from bookstogether.running import everyone, run_plainly
from bookstogether.worlds import clash, group

BY_TABLE = ("table",)


def statement_deeds(world, heap, statement):
    """Return the deeds of a statement on a heap, for somebody who sees all rows and reads tables as a whole."""
    word, table = statement[:2]
    if word == "put":
        return [_writing(world, table, heap.fresh, None, statement[2])]
    if word == "upsert":
        return _upsert_deeds(world, heap, statement)
    pairs = _found_pairs(heap, table, statement[2])
    deeds = [_reading(table, pairs)]
    if word == "change":
        column, value = statement[3:]
        deeds.extend([_writing(world, table, number, row, altered(row, column, value)) for number, row in pairs])
    elif word == "remove":
        deeds.extend([_writing(world, table, number, row, None) for number, row in pairs])
    return deeds


def _found_pairs(heap, table, condition):
    """Return the pairs whose rows are found, by ascending numbers; none if the condition divides by 0 for a row."""
    try:
        return [(number, row) for number, row in heap.pairs(table) if truth(condition, row)]
    except ZeroDivisor:
        return []


def _reading(table, pairs):
    """Return the deed of a reading that finds these pairs."""
    return ("read", table, BY_TABLE, tuple([number for number, _ in pairs]))


def _writing(world, table, number, old, new):
    """Return the deed of a writing from an old to a new row, of which one may be None."""
    keys = []
    for rule in world.rules_of(table):
        for row in (old, new):
            if row is not None and group(rule, row) is not None:
                keys.append(("key", rule[0], group(rule, row)))
    return ("write", table, number, (), tuple(keys))


def _upsert_deeds(world, heap, statement):
    """Return the deeds of an upsert."""
    _, table, asked, names, sets = statement
    deeds = []
    found = {}
    for name in names:
        rule = world.rule(name)
        pairs = [(number, row) for number, row in heap.pairs(table) if clash(rule, asked, row)]
        deeds.append(_reading(table, pairs))
        found.update({number: row for number, row in pairs})
    if len(found) == 0:
        deeds.append(_writing(world, table, heap.fresh, None, asked))
    elif len(found) == 1:
        number, old = list(found.items())[0]
        deeds.append(_writing(world, table, number, old, upserted(old, asked, sets)))
    return deeds


def commute(world, heap, first, second):
    """Tell whether two statements have the same tells and leave the same rows in both orders."""
    told_first, told_second, tables = _run_both(world, heap, first, second)
    second_told, first_told, other_tables = _run_both(world, heap, second, first)
    return told_first == first_told and told_second == second_told and tables == other_tables


def _run_both(world, heap, first, second):
    """Run two statements on a copy of the heap; return their tells and the rows of each table behind them."""
    copied = heap.copy()
    first_tell, _ = run_plainly(world, copied, first, everyone)
    second_tell, _ = run_plainly(world, copied, second, everyone)
    return first_tell, second_tell, [copied.bag(table) for table in world]
