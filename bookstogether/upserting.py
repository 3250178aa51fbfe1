"""What an upsert finds and tells under a book."""

from bookstogether.errors import Ambiguous
from bookstogether.worlds import clash


def matched(book, rule, row, pairs, *, by_index):
    """Return the pairs of a number and a stored row that a search by the rule finds for a new row."""
    if by_index and not book.again:
        return list(pairs)
    return [(number, other) for number, other in pairs if clash(rule, row, other)]


def target(lists):
    """Return the one pair that is found in the lists, or None."""
    found = None
    for pairs in lists:
        for pair in pairs:
            if found is not None and pair[0] != found[0]:
                raise Ambiguous()
            found = pair
    return found


def upsert_tell(book, asked, old, new):
    """Return the tell of an upsert of the asked row that found the old row, or None, and made the new one."""
    if old is None:
        return ("put", new)
    told = asked if book.tells == "asked" else new
    if new == old:
        return ("kept", told)
    return ("changed", old, told)
