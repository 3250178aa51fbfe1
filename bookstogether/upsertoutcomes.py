"""What an upsert can tell, judged by small bags."""

from bookstogether.errors import InvalidStatement, InvalidStore
from bookstogether.heaps import Heap
from bookstogether.rows import all_rows, sorted_rows
from bookstogether.running import everyone, run_plainly
from bookstogether.statements import check_statement
from bookstogether.worlds import clash, first_clash


def _check_upsert(world, statement):
    """Raise the first error of a statement that must be an upsert."""
    check_statement(world, statement)
    if statement[0] != "upsert":
        raise InvalidStatement("not an upsert")


class Trial:
    """The bags on which upserts of one table are tried, for somebody who sees some rows."""

    def __init__(self, world, table, sees):
        self.world = world
        self.table = table
        self.sees = everyone if sees is None else sees
        self.rows = [row for row in all_rows() if self.sees(table, row)]

    def small_bags(self):
        """Return the bags of no and of one row, in their order."""
        return [[]] + [[row] for row in self.rows]

    def heap_of(self, bag):
        """Return a heap with the rows of a bag."""
        heap = Heap()
        for row in bag:
            heap.put(self.table, row)
        return heap

    def run(self, statement, heap):
        """Run an upsert on a heap and return its tell."""
        tell, _ = run_plainly(self.world, heap, statement, self.sees)
        return tell

    def tell(self, statement, bag):
        """Return the tell of an upsert on a bag."""
        return self.run(statement, self.heap_of(bag))

    def second_tell(self, statement, bag):
        """Return the second tell of an upsert that is run twice on a bag."""
        heap = self.heap_of(bag)
        self.run(statement, heap)
        return self.run(statement, heap)

    def bags_of_two(self, rows):
        """Return the bags of two rows of which at least one is among the given ones, in their order."""
        rules = self.world.rules_of(self.table)
        bags = []
        for at, first in enumerate(self.rows):
            for second in self.rows[at:]:
                if (first in rows or second in rows) and first_clash(rules, first, [second]) == "":
                    bags.append([first, second])
        return bags


def _result(tell):
    """Return the result of a tell: a refusal as it is, of others the first word."""
    return tell if tell[0] == "refused" else tell[:1]


def _all_results(world, table):
    """Return all results in the order in which they are told."""
    results = [("put",), ("kept",), ("changed",), ("refused", "hidden"), ("refused", "ambiguous")]
    return results + [("refused", "duplicate", rule[0]) for rule in world.rules_of(table)]


def upsert_outcomes(world, statement, *, sees=None):
    """Return for each result of an upsert the first bag that has it."""
    _check_upsert(world, statement)
    table, asked, names = statement[1:4]
    trial = Trial(world, table, sees)
    rules = [world.rule(name) for name in names]
    # If no row of a bag is found, one row of it is enough for the same result.
    found = [row for row in trial.rows if any([clash(rule, asked, row) for rule in rules])]
    firsts = {}
    for bag in trial.small_bags() + trial.bags_of_two(found):
        firsts.setdefault(_result(trial.tell(statement, bag)), bag)
    return {result: firsts[result] for result in _all_results(world, table) if result in firsts}


def parting(world, first, second, *, sees=None):
    """Return the first bag on which two upserts of a table have different tells, or None."""
    _check_upsert(world, first)
    _check_upsert(world, second)
    if first[1] != second[1]:
        raise InvalidStatement("the upserts have different tables")
    trial = Trial(world, first[1], sees)
    for bag in trial.small_bags():
        if trial.tell(first, bag) != trial.tell(second, bag):
            return bag
    return None


def least_names(world, statement, *, sees=None):
    """Return the shortest tuple of names of rules by which an upsert does the same."""
    _check_upsert(world, statement)
    names = statement[3]
    # A table has at most two rules, so only these tuples are shorter than one of several names.
    for fewer in [()] + [(name,) for name in names]:
        other = statement[:3] + (fewer, statement[4])
        if parting(world, statement, other, sees=sees) is None:
            return fewer
    return names


def unsteady(world, statement, *, sees=None):
    """Return the first bag on which an upsert that is repeated at once changes a row again, or None."""
    _check_upsert(world, statement)
    trial = Trial(world, statement[1], sees)
    for bag in trial.small_bags():
        if trial.second_tell(statement, bag)[0] in ("put", "changed"):
            return bag
    return None


def taken_back(rows, told):
    """Return the rows of a table before an upsert, for those behind it and its tell."""
    before = list(rows)
    if told[0] in ("put", "changed"):
        if told[-1] not in before:
            raise InvalidStore("the row that the upsert stored is missing")
        before.remove(told[-1])
    if told[0] == "changed":
        before.append(told[1])
    return sorted_rows(before)
