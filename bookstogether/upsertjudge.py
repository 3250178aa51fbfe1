"""The judgement of a book of upserts alone."""

from bookstogether.worlds import first_grouped


def judge_upserts(world, book):
    """Return the findings of a book of upserts."""
    witness = first_grouped(world)
    if book.tells != "asked" or witness is None:
        return ()
    return (("asked", *witness),)
