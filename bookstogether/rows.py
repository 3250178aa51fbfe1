"""Values, columns and rows."""

from bookstogether.errors import InvalidRow

VALUES = (None, 0, 1, 2)
COLUMNS = (0, 1, 2)
FREE = (None, None, None)


def is_row(row):
    """Tell whether this is a tuple of three values."""
    if not isinstance(row, tuple) or len(row) != len(COLUMNS):
        return False
    return all([value in VALUES for value in row])


def check_row(row):
    """Raise InvalidRow for a tuple that is not a row."""
    if not is_row(row):
        raise InvalidRow("a row is a tuple of three values")


def row_key(row):
    """Return the tuple of the values of a row, with -1 for unknown."""
    return tuple([-1 if value is None else value for value in row])


def sorted_rows(rows):
    """Return the rows as a list, ascending."""
    return sorted(rows, key=row_key)


def all_rows():
    """Yield the 64 rows, ascending."""
    for first in VALUES:
        for second in VALUES:
            for third in VALUES:
                yield (first, second, third)


def altered(row, column, value):
    """Return the row with another value at a column."""
    return row[:column] + (value,) + row[column + 1:]
