"""The judgement of a book of upserts alone."""

from bookstogether.rows import all_rows
from bookstogether.worlds import group


def judge_upserts(world, book):
    """Return the findings of a book of upserts."""
    if book.tells != "asked":
        return ()
    rows = list(all_rows())
    for rule in world.rules:
        for row in rows:
            if group(rule, row) is not None:
                return (("asked", rule[0], row),)
    return ()
