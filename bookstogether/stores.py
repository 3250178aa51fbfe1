"""Stores: a world, a sight and the rows."""

from bookstogether.errors import InvalidStore, ScriptRefused, UnknownTable
from bookstogether.heaps import Heap
from bookstogether.rows import check_row
from bookstogether.running import run_plainly
from bookstogether.sights import Sight
from bookstogether.statements import check_statement
from bookstogether.worlds import first_clash


class Store:
    """The plain store."""

    def __init__(self, world, sight=None):
        self.world = world
        self.sight = Sight() if sight is None else sight
        self.heap = Heap()

    def __len__(self):
        return len(self.heap)

    def load(self, table, row):
        """Add a row of the start, whoever may see it."""
        rules = self.world.rules_of(table)
        check_row(row)
        if first_clash(rules, row, self.heap.bag(table)) != "":
            raise InvalidStore("the row clashes with a row of its table")
        self.heap.put(table, row)

    def run(self, user, statement):
        """Carry out a statement for what the user is shown, and return its tell."""
        check_statement(self.world, statement)

        def sees(table, row):
            return self.sight(user, table, row)

        tell, _ = run_plainly(self.world, self.heap, statement, sees)
        return tell

    def bag(self, table):
        """Return the rows of a table, ascending."""
        if table not in self.world:
            raise UnknownTable(table)
        return self.heap.bag(table)

    def copy(self):
        """Return a store with the same world, sight and rows, which changes separately."""
        other = Store(self.world, self.sight)
        other.heap = self.heap.copy()
        return other


def run_script(store, user, *statements):
    """Run statements one behind another, all of them or none, and return the list of their tells."""
    # All runs on a copy first, so that no error can leave a part of the script behind.
    trial = store.copy()
    tells = []
    for at, statement in enumerate(statements):
        tell = trial.run(user, statement)
        if tell[0] == "refused":
            raise ScriptRefused(at)
        tells.append(tell)
    store.heap.take_over(trial.heap)
    return tells
