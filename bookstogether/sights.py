"""Sights: which rows a user is shown."""

from bookstogether.conditions import truth
from bookstogether.rows import all_rows


class Sight:
    """Hiding rules; called with a user, a table and a row, it tells whether the row is shown."""

    def __init__(self, *rules):
        self.rules = rules

    def __call__(self, user, table, row):
        for who, where, condition in self.rules:
            if who == user and where == table and not truth(condition, row):
                return False
        return True

    def hidden(self, user, table):
        """Return the rows of the table that the user is not shown, ascending."""
        return [row for row in all_rows() if not self(user, table, row)]
