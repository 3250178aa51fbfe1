"""Deeds whose needs meet under one book of locks but not under another one."""

from bookstogether.lockneeds import meet, read_needs, write_needs


def deed_needs(book, deed):
    """Return the needs of a deed."""
    if deed[0] == "read":
        _, table, road, numbers = deed
        return read_needs(book, table, road, numbers)
    _, table, number, nodes, keys = deed
    return write_needs(book, table, number, nodes, keys)


def looser_at(book, other):
    """Return two deeds whose needs meet under the other book but not under the book, or None."""
    first_deeds = _deeds("a", "i", "s", "p", (0, 1))
    second_deeds = _deeds("b", "j", "t", "q", (2,))
    for first in first_deeds:
        for second in first_deeds + second_deeds:
            if _meeting(other, first, second) and not _meeting(book, first, second):
                return (first, second)
    return None


def _meeting(book, first, second):
    """Tell whether the needs of two deeds meet."""
    return meet(deed_needs(book, first), deed_needs(book, second))


def _deeds(table, index, summary, rule, numbers):
    """Return deeds of a table that are enough to find a meeting, if there is one.

    Needs meet at one node, and a deed that loses a number, a mark or a key needs nothing more than before. So at
    most one of each is enough. A writing always has a number, which may be another one than that of a reading.
    """
    nodes = [("index", index), ("summary", summary)]
    deeds = [("read", table, road, numbers[:1]) for road in [("table",)] + nodes]
    for number in numbers:
        for marked in [()] + [(node,) for node in nodes]:
            deeds.append(("write", table, number, marked, ()))
            deeds.append(("write", table, number, marked, (("key", rule, 0),)))
    return deeds
