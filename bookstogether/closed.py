"""Closed tables: the outcomes of a condition for all rows."""

from bookstogether.conditions import truth
from bookstogether.errors import ZeroDivisor
from bookstogether.rows import all_rows


def outcome(condition, row):
    """Return the word of the truth value, or `error` for a division by 0."""
    try:
        return truth(condition, row).word
    except ZeroDivisor:
        return "error"


def outcomes(condition):
    """Return the closed table of a condition."""
    return tuple([outcome(condition, row) for row in all_rows()])


def true_rows(condition):
    """Return the rows for which the condition is true, ascending."""
    return [row for row in all_rows() if outcome(condition, row) == "true"]


def live_rows(condition):
    """Return the live rows of the condition, ascending."""
    return [row for row in all_rows() if outcome(condition, row) in ("true", "error")]


def escape(condition, other):
    """Return the first live row for which the other condition is not true, or None."""
    for row in live_rows(condition):
        if outcome(other, row) != "true":
            return row
    return None


def alike(condition, other):
    """Tell whether two conditions have the same closed table."""
    return outcomes(condition) == outcomes(other)
