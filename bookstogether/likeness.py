"""Whether a summary serves a question."""

from bookstogether.errors import ZeroDivisor
from bookstogether.rows import all_rows
from bookstogether.summarybooks import share_at


def serves(book, summary, sight, user, question):
    """Tell whether a summary serves a question of a user."""
    if question[0] != summary.kind or question[1] != summary.table:
        return False
    for row in all_rows():
        hidden = book.alike == "shown" and not sight(user, summary.table, row)
        try:
            asked = share_at(question, None if hidden else row)
        except ZeroDivisor:
            return False
        if asked != summary.share(row):
            return False
    return True
