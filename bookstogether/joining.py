"""Joins of two tables that are kept up to date."""

from bookstogether.conditions import truth
from bookstogether.summarybooks import greatest_known


class Side:
    """One side of a join: how often each row is on it."""

    def __init__(self, side):
        self.table, self.column, self.condition = side
        self.counts = {}

    def note(self, table, row, difference):
        """Let a row of a table, or None, stand on the side so many times more."""
        if row is None or table != self.table or row[self.column] is None:
            return
        if truth(self.condition, row):
            self.counts[row] = self.counts.get(row, 0) + difference

    def partners(self, value):
        """Return the number of the rows on the side with this value at its column."""
        return sum([count for row, count in self.counts.items() if row[self.column] == value])


class Join:
    """The pairs of rows on two sides with equal known values."""

    def __init__(self, first, second, *, summed):
        self.first = tuple(first)
        self.second = tuple(second)
        self.summed = summed
        self.sides = [Side(self.first), Side(self.second)]

    def fill(self, heap):
        """Take the rows of a heap instead of the own ones."""
        self.sides = [Side(self.first), Side(self.second)]
        for table, row in [heap[number] for number in heap]:
            for side in self.sides:
                side.note(table, row, 1)

    def write(self, table, number, old, new):
        """Take the new row of a table, or None, instead of the old one."""
        for side in self.sides:
            side.note(table, old, -1)
            side.note(table, new, 1)

    def _numbers(self):
        """Return, for each row on the first side, the pair of its value at `summed` and the number of its pairs."""
        side, other = self.sides
        counts = side.counts
        return [(row[self.summed], count * other.partners(row[side.column])) for row, count in counts.items()]

    def pairs(self):
        """Return the number of the pairs."""
        return sum([many for _, many in self._numbers()])

    def total(self):
        """Return the sum of the known values at `summed` in the first rows of all pairs."""
        return sum([value * many for value, many in self._numbers() if value is not None])

    def peak(self):
        """Return the greatest known value at `summed` in the first rows of all pairs, or None."""
        return greatest_known([value for value, many in self._numbers() if many > 0])
