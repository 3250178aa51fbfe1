"""Whether an index finds the rows that a new row clashes with by a rule."""

from bookstogether.closed import true_rows
from bookstogether.rows import all_rows
from bookstogether.worlds import group


class Search:
    """The search for clashing rows by a rule through some index on a column."""

    def __init__(self, rule, column, again):
        self.column = column
        self.again = again
        self.groups = {row: group(rule, row) for row in all_rows()}

    def clashes(self, new, other):
        """Tell whether the two rows clash by the rule."""
        own = self.groups[new]
        return own is not None and own == self.groups[other]

    def finds_held(self, new, other):
        """Tell whether the new row finds the other one if the index holds it."""
        if self.groups[new] is None or new[self.column] is None:
            return False
        if new[self.column] != other[self.column]:
            return False
        return not self.again or self.clashes(new, other)


def arbiter_gap(rule, column, condition, again):
    """Return the first pair of rows such that one finds or clashes with the other one, but not both."""
    search = Search(rule, column, again)
    rows = list(all_rows())
    held = set(true_rows(condition))
    for new in rows:
        for other in rows:
            found = other in held and search.finds_held(new, other)
            if found != search.clashes(new, other):
                return (new, other)
    return None


def arbiter_bounds(rule, column, again):
    """Return the rows that an index without a gap must hold and those that it may hold, or None."""
    search = Search(rule, column, again)
    rows = list(all_rows())
    must = []
    may = []
    for other in rows:
        pairs = [(search.clashes(new, other), search.finds_held(new, other)) for new in rows]
        wanted = (True, True) in pairs
        unwanted = (False, True) in pairs
        # A clash that no index finds, or a row that may neither be held nor be missing, leaves no way out.
        if (True, False) in pairs or (wanted and unwanted):
            return None
        if wanted:
            must.append(other)
        if not unwanted:
            may.append(other)
    return (must, may)
