"""Which columns matter to a condition, and which indexes together find all rows of a question."""

from bookstogether.closed import live_rows, true_rows
from bookstogether.conditions import truth
from bookstogether.rows import COLUMNS, VALUES, altered


def mattering(condition):
    """Return the columns at which a change alone can make the condition true or not true, ascending."""
    rows = true_rows(condition)
    found = []
    for column in COLUMNS:
        changed = [altered(row, column, value) for row in rows for value in VALUES]
        if not all([row in rows for row in changed]):
            found.append(column)
    return tuple(found)


def position_choices(count):
    """Yield all ascending tuples of positions below the count, shorter ones first."""
    level = [()]
    while len(level) > 0:
        for choice in level:
            yield choice
        level = [shorter + (at,) for shorter in level for at in range(_behind(shorter), count)]


def _behind(choice):
    """Return the least position that may follow those of a choice."""
    return choice[-1] + 1 if len(choice) > 0 else 0


def least_together(book, table, condition):
    """Return the names of the first choice of indexes that hold all live rows of the condition together, or None."""
    indexes = book.of_table(table)
    rows = live_rows(condition)
    held = [[index.holds(row) for row in rows] for index in indexes]
    for choice in position_choices(len(indexes)):
        if all([any([held[position][at] for position in choice]) for at in range(len(rows))]):
            return tuple([indexes[position].name for position in choice])
    return None


def found_together(entries, heap, names, condition):
    """Return the numbers of the rows with entries of the named indexes for which the condition is true, ascending."""
    # An entry need not be due, so its number may have no row.
    numbers = [number for name in names for _, number in entries.listed(name) if number in heap]
    return [number for number in sorted(set(numbers)) if truth(condition, heap[number][1])]
