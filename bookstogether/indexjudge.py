"""The judgement of a book of indexes alone."""

from bookstogether.closed import outcome
from bookstogether.indexbooks import index_group
from bookstogether.rows import COLUMNS, VALUES, all_rows, altered
from bookstogether.worlds import group


def rules_gap(world, book):
    """Return the first table and rows that clash by another first rule than in the indexes, or None."""
    if len(book.indexes) == 0:
        return None
    for table in world:
        pair = _clash_gap(book, world.rules_of(table))
        if pair is not None:
            return (table, *pair)
    return None


def _clash_gap(book, rules):
    """Return the first two rows of a table that clash by another first rule than in the indexes, or None."""
    holders = [book.holder(rule[0]) for rule in rules]
    rows = list(all_rows())
    groups = {row: [group(rule, row) for rule in rules] for row in rows}
    held = {row: [index_group(index, row) for index in holders] for row in rows}
    for first in rows:
        for second in rows:
            if _first_common(groups[first], groups[second]) != _first_common(held[first], held[second]):
                return (first, second)
    return None


def _first_common(own, others):
    """Return the first place at which two lists have the same group, or None."""
    for at, value in enumerate(own):
        if value is not None and value == others[at]:
            return at
    return None


def judge_indexes(world, book):
    """Return the findings of a book of indexes."""
    found = _writes_findings(book) + _serves_findings(book)
    gap = rules_gap(world, book)
    if gap is not None:
        found.append(("rules", *gap))
    return tuple(found)


def _writes_findings(book):
    """Return the finding about writes that do not touch an index, if there is one."""
    if book.writes == "both":
        return []
    for index in book.indexes:
        pair = _unwritten_beside(index) if book.writes == "column" else _unwritten_at(index)
        if pair is not None:
            return [("writes", index.name, *pair)]
    return []


def _unwritten_beside(index):
    """Return the first row that comes into the index by a change of another column, and the changed row, or None."""
    held = [row for row in all_rows() if index.holds(row)]
    for before in all_rows():
        if before in held:
            continue
        for after in held:
            differing = [column for column in COLUMNS if before[column] != after[column]]
            if len(differing) == 1 and differing[0] != index.column:
                return (before, after)
    return None


def _unwritten_at(index):
    """Return the first held row with the first other value at the index's column, and this row itself, or None."""
    for after in all_rows():
        if index.holds(after):
            others = [value for value in VALUES if value != after[index.column]]
            return (altered(after, index.column, others[0]), after)
    return None


def _serves_findings(book):
    """Return the finding about questions that are served without enough entries, if there is one."""
    for index in book.indexes:
        if book.serves == "true":
            return [("errors", index.name)]
        for row in all_rows():
            if book.serves == "possible" and outcome(index.condition, row) == "unknown":
                return [("serves", index.name, row)]
    return []
