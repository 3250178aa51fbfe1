"""Whether an index serves a question."""

from bookstogether.closed import live_rows, outcome, true_rows
from bookstogether.rows import VALUES


def _enough(book, index, row):
    """Tell whether the index may serve a question that this row concerns."""
    told = outcome(index.condition, row)
    return told == "true" or (book.serves == "possible" and told != "false")


def span(book, index, condition):
    """Return the values under which an index serves a question with this condition, or None."""
    rows = true_rows(condition) if book.serves == "true" else live_rows(condition)
    if not all([_enough(book, index, row) for row in rows]):
        return None
    values = [row[index.column] for row in rows]
    return tuple([value for value in VALUES if value in values])
