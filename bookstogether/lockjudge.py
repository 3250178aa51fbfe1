"""The judgement of a book of locks alone, and writings that no lock keeps from a question."""

from bookstogether.answers import answer
from bookstogether.closed import outcome
from bookstogether.conditions import truth
from bookstogether.errors import ZeroDivisor
from bookstogether.lockneeds import meet, read_needs, write_needs
from bookstogether.rows import all_rows
from bookstogether.worlds import first_grouped

# The number of the one row that is written and perhaps found; any number would do.
NUMBER = 0


def _lone_tell(question, row):
    """Return the tell of a question about a table with this row alone, or with none for None."""
    try:
        found = [row] if row is not None and truth(question[2], row) else []
    except ZeroDivisor as refusal:
        return refusal.told
    return answer(question, found)


def matters(question, old, new):
    """Tell whether a writing from the old to the new row changes the tell of a question."""
    return _lone_tell(question, old) != _lone_tell(question, new)


def unguarded(book, question, road, marks):
    """Return the first writing that matters to a question while its needs and those of the reading do not meet."""
    rows = [None] + list(all_rows())
    tells = {row: _lone_tell(question, row) for row in rows}
    for old in rows:
        found = old is not None and outcome(question[2], old) == "true"
        # The mark is asked for only where it decides.
        if _reading_meets(book, question[1], road, found, False):
            continue
        guarding = _reading_meets(book, question[1], road, found, True)
        for new in rows:
            if tells[old] != tells[new] and not (guarding and marks(old, new)):
                return (old, new)
    return None


def _reading_meets(book, table, road, found, marked):
    """Tell whether the needs of a reading by the road and those of a writing meet."""
    numbers = [NUMBER] if found else []
    nodes = [road[:2]] if marked and road[0] != "table" else []
    return meet(read_needs(book, table, road, numbers), write_needs(book, table, NUMBER, nodes, []))


def judge_locks(world, book):
    """Return the findings of a book of locks."""
    found = []
    if book.lasts == "turn":
        found.append(("lasts",))
    if book.read == "rows" and book.write == "row":
        found.append(("rows",))
    if len(found) == 0 and book.clash == "wait" and book.read != "alone":
        found.append(("ring",))
    grouped = first_grouped(world)
    if book.checks == "none" and book.write == "row" and grouped is not None:
        found.append(("checks", *grouped))
    return tuple(found)
