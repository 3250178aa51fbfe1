"""Conditions and their truth for a row."""

from bookstogether.errors import InvalidCondition, ZeroDivisor
from bookstogether.truth import Truth

# Columns and values in a condition are the same numbers.
NUMBERS = (0, 1, 2)

# What stands behind each first word.
PARTS = {
    "always": (),
    "equal": ("number", "number"),
    "below": ("number", "number"),
    "unknown": ("number",),
    "quotient": ("number", "number", "number"),
    "not": ("condition",),
    "and": ("condition", "condition"),
    "or": ("condition", "condition"),
}


def _has_form(condition):
    """Tell whether the first word and the number of the parts are those of a condition."""
    if not isinstance(condition, tuple) or len(condition) == 0:
        return False
    word = condition[0]
    return word in PARTS and len(condition) == 1 + len(PARTS[word])


def check_condition(condition, *, levels=10, quotients=True):
    """Raise InvalidCondition for a tuple that is not a condition within these bounds."""
    if not _has_form(condition):
        raise InvalidCondition("not a condition")
    if levels < 1:
        raise InvalidCondition("too many levels")
    word = condition[0]
    if word == "quotient" and not quotients:
        raise InvalidCondition("no quotient is allowed here")
    for kind, part in zip(PARTS[word], condition[1:]):
        if kind == "condition":
            check_condition(part, levels=levels - 1, quotients=quotients)
        elif part not in NUMBERS:
            raise InvalidCondition("a column or a value is not 0, 1 or 2")


def check_standing_condition(condition):
    """Raise InvalidCondition for what may not stand in a rule, an index, a hiding rule or a summary."""
    check_condition(condition, levels=6, quotients=False)


def may_stand(condition):
    """Tell whether a tuple is a condition that may stand in a rule, an index, a hiding rule or a summary."""
    try:
        check_standing_condition(condition)
    except InvalidCondition:
        return False
    return True


def truth(condition, row):
    """Return the truth value of a condition for a row."""
    word = condition[0]
    if word == "not":
        return ~truth(condition[1], row)
    if word == "and":
        left = truth(condition[1], row)
        return left if left.rank == 0 else left & truth(condition[2], row)
    if word == "or":
        left = truth(condition[1], row)
        return left if left.rank == 2 else left | truth(condition[2], row)
    return Truth.of(_simple_value(condition, row))


def _simple_value(condition, row):
    """Return False, None or True for a condition that has no conditions as parts."""
    word = condition[0]
    if word == "always":
        return True
    known = row[condition[1]]
    if word == "unknown":
        return known is None
    if word == "quotient":
        return _quotient_value(known, row[condition[2]], condition[3])
    if known is None:
        return None
    return known == condition[2] if word == "equal" else known < condition[2]


def _quotient_value(dividend, divisor, value):
    """Return False, None or True for a quotient of two values of a row."""
    if divisor == 0:
        raise ZeroDivisor()
    if dividend is None or divisor is None:
        return None
    return dividend // divisor == value


def atom(column, value):
    """Return a condition that is true where the column has the value."""
    if value is None:
        return ("unknown", column)
    return ("equal", column, value)


def only(row):
    """Return a condition that is true for this row alone."""
    return ("and", ("and", atom(0, row[0]), atom(1, row[1])), atom(2, row[2]))
