"""Which rows pass the test of a question under a hiding book."""

from bookstogether.conditions import truth


def passes(book, user, table, row, condition):
    """Tell whether a row is shown to the user and the condition is true for it."""
    if book.first == "ask":
        # The truth comes first here even for a hidden row, for which it may raise an error.
        return bool(truth(condition, row)) and book.sight(user, table, row)
    return book.sight(user, table, row) and bool(truth(condition, row))


def counted(book, user, table, rows):
    """Return the number of the rows that are told to have been looked at."""
    if book.told == "all":
        return len(rows)
    return len([row for row in rows if book.sight(user, table, row)])
