"""Sights under which no row that is shown clashes with a hidden one."""

from bookstogether.names import USERS
from bookstogether.packing import row_groups
from bookstogether.rows import all_rows
from bookstogether.sights import Sight
from bookstogether.worlds import group


def uneven(world, sight):
    """Return the first user, rule, shown row and hidden row that clash by the rule, or None."""
    for user in USERS:
        for rule in world.rules:
            pair = _uneven_pair(sight, user, rule)
            if pair is not None:
                return (user, rule[0], *pair)
    return None


def _uneven_pair(sight, user, rule):
    """Return the first shown row and hidden row that clash by the rule, or None."""
    groups = {row: group(rule, row) for row in all_rows()}
    hidden = [row for row in groups if not sight(user, rule[1], row)]
    for row, own in groups.items():
        if own is None or row in hidden:
            continue
        for other in hidden:
            if groups[other] == own:
                return (row, other)
    return None


def evened(world, sight, user, table):
    """Return the greatest even set of rows that the user is shown in the table, ascending."""
    pairs = {row: row_groups(world, table, row) for row in all_rows()}
    kept = [row for row in pairs if sight(user, table, row)]
    before = []
    # A row that is left out takes those along that clash with it, until there are no more of these.
    while kept != before:
        before = kept
        torn = [pair for row in pairs if row not in before for pair in pairs[row]]
        kept = [row for row in before if not any([pair in torn for pair in pairs[row]])]
    return kept


class EvenSight(Sight):
    """The widest even sight that shows nothing that another sight hides."""

    def __init__(self, world, sight):
        super().__init__(*sight.rules)
        self.world = world
        self.sight = sight
        self.shown = {(user, table): evened(world, sight, user, table) for user in USERS for table in world}

    def __call__(self, user, table, row):
        place = (user, table)
        shown = self.shown[place] if place in self.shown else evened(self.world, self.sight, user, table)
        return row in shown


def wider(world, first, second):
    """Return the first user, table and row that the first sight shows and the second one does not, or None."""
    for user in USERS:
        for table in world:
            for row in all_rows():
                if first(user, table, row) and not second(user, table, row):
                    return (user, table, row)
    return None
