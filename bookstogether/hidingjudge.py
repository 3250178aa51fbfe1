"""The judgement of a hiding book alone."""

from bookstogether.names import USERS
from bookstogether.viewing import exposed


def judge_hiding(world, book):
    """Return the findings of a hiding book."""
    for user in USERS:
        for table in world:
            # A hidden row that a question can tell has a 0, by which the question divides.
            for row in exposed(book, user, table):
                return (("first", user, table, row, row.index(0)),)
    return ()
