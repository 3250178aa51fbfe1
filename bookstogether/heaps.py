"""Heaps: the rows of all tables under numbers."""

from bookstogether.errors import UnknownNumber
from bookstogether.rows import sorted_rows


class Heap:
    """Pairs of a table and a row, each under a number."""

    def __init__(self):
        self.rows = {}
        self.fresh = 0

    def __len__(self):
        return len(self.rows)

    def __contains__(self, number):
        return number in self.rows

    def __iter__(self):
        return iter(self.rows)

    def __getitem__(self, at):
        if at not in self.rows:
            raise UnknownNumber(at)
        return self.rows[at]

    def __setitem__(self, at, worth):
        self.rows[at] = worth
        self.fresh = max(self.fresh, at + 1)

    def put(self, table, row):
        """Store a row under a new number and return the number."""
        number = self.fresh
        self[number] = (table, row)
        return number

    def write(self, table, number, row):
        """Store a row under a number, or take the number away if the row is None."""
        if row is not None:
            self[number] = (table, row)
        elif number in self.rows:
            del self.rows[number]

    def numbers(self, table):
        """Return the numbers of the rows of a table, ascending."""
        return sorted([number for number, (name, _) in self.rows.items() if name == table])

    def pairs(self, table):
        """Return the pairs of a number and a row of a table, by ascending numbers."""
        return [(number, self.rows[number][1]) for number in self.numbers(table)]

    def bag(self, table):
        """Return the rows of a table, ascending."""
        return sorted_rows([row for name, row in self.rows.values() if name == table])

    def take_over(self, other):
        """Have the same rows, numbers and `fresh` as another heap, instead of the own ones."""
        self.rows = dict(other.rows)
        self.fresh = other.fresh

    def copy(self):
        """Return a heap with the same rows, numbers and `fresh`, which changes separately."""
        other = Heap()
        other.take_over(self)
        return other
