"""The judgement of a book of looks alone."""

from bookstogether.closed import outcome
from bookstogether.rows import all_rows


def counts_gap(condition):
    """Return the first row that a question with this condition looks at and does not find, or None."""
    for row in all_rows():
        if outcome(condition, row) in ("false", "unknown"):
            return row
    return None


def judge_looks(world, book):
    """Return the findings of a book of looks."""
    if book.tells and book.counts == "found":
        return (("counts",),)
    return ()
