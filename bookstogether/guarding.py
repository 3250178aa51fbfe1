"""Conditions that are never unknown, and questions that ask for no hidden row."""

from bookstogether.conditions import check_condition


def certain(condition, *, turned=False):
    """Return a condition that is true where the given one is true, or false if turned, and false elsewhere."""
    word = condition[0]
    if word == "not":
        return certain(condition[1], turned=not turned)
    if word in ("and", "or"):
        # By turning, `and` and `or` take each other's place.
        joint = "and" if (word == "and") != turned else "or"
        return (joint, certain(condition[1], turned=turned), certain(condition[2], turned=turned))
    plain = ("not", condition) if turned else condition
    if word in ("equal", "below"):
        return ("and", ("not", ("unknown", condition[1])), plain)
    return plain


def guarded(book, user, question):
    """Return a question that is told, whatever comes first, what the given one is told if hiding comes first."""
    condition = question[2]
    for who, table, shown in book.rules:
        if who == user and table == question[1]:
            check_condition(condition, levels=9)
            return question[:2] + (("and", certain(shown), condition),) + question[3:]
    return question
