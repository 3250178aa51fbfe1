"""What a user is told of a heap, and what of it a hidden row can change."""

from bookstogether.answers import answer
from bookstogether.closed import outcome
from bookstogether.conditions import only
from bookstogether.errors import ZeroDivisor
from bookstogether.guarding import certain
from bookstogether.passing import counted, passes
from bookstogether.rows import all_rows


def view(sight, user, heap, table):
    """Return the rows of the table that the user is shown, ascending."""
    return [row for row in heap.bag(table) if sight(user, table, row)]


def seem_alike(world, sight, user, heap, other):
    """Tell whether the user has equal views of two heaps."""
    return all([view(sight, user, heap, table) == view(sight, user, other, table) for table in world])


def ask_table(book, user, heap, question):
    """Return the tell of a question for which all rows of its table are tested, and how many are told."""
    table, condition = question[1:3]
    rows = heap.bag(table)
    try:
        found = [row for row in rows if passes(book, user, table, row, condition)]
    except ZeroDivisor as refusal:
        return (refusal.told, None)
    return (answer(question, found), counted(book, user, table, rows))


def revealing(book, user, question, *, looks=False):
    """Return the first hidden row that changes, on some heap, what the question is told, or None."""
    table, condition = question[1:3]
    for row in book.sight.hidden(user, table):
        # On the empty heap nothing is refused and nothing counted, so each change is seen there.
        if looks and book.told == "all":
            return row
        if book.first == "ask" and outcome(condition, row) == "error":
            return row
    return None


def exposed(book, user, table):
    """Yield the hidden rows that change, on some heap, what some question is told, ascending."""
    for row in book.sight.hidden(user, table):
        if book.first == "ask" and 0 in row:
            yield row


def probe(table, row):
    """Return a question that divides by 0 for this row and finds no other one, or None."""
    if 0 not in row:
        return None
    quotient = ("quotient", 0, row.index(0), 0)
    return ("count", table, ("and", certain(only(row)), quotient), "")


def parting_question(world, book, user, heap, other, *, looks=False):
    """Return a question that is told something else on two heaps, or None."""
    for table in world:
        question = _parting_at(book, user, table, heap.bag(table), other.bag(table), looks)
        if question is not None:
            return question
    return None


def _parting_at(book, user, table, rows, others, looks):
    """Return a question about a table that is told something else for these rows and for the others, or None."""
    for row in all_rows():
        many, more = rows.count(row), others.count(row)
        if many == more:
            continue
        if book.sight(user, table, row):
            return ("count", table, only(row), "")
        # How often a row refuses a question makes no difference.
        if book.first == "ask" and 0 in row and 0 in (many, more):
            return probe(table, row)
    if looks and book.told == "all" and len(rows) != len(others):
        return ("count", table, ("always",), "")
    return None
