"""Carrying out statements on a heap, as the plain store does."""

from bookstogether.answers import answer, upserted
from bookstogether.conditions import truth
from bookstogether.errors import Ambiguous, Duplicate, HiddenRow, Refusal
from bookstogether.rows import altered, row_key
from bookstogether.statements import is_question
from bookstogether.worlds import clash, first_clash


def everyone(table, row):
    """See every row."""
    return True


def _pair_key(pair):
    """Return the key by which pairs of a number and a row are taken: by rows, then by numbers."""
    number, row = pair
    return (row_key(row), number)


def in_order(pairs):
    """Return pairs of a number and a row in the order in which a statement takes them."""
    return sorted(pairs, key=_pair_key)


class PlainRun:
    """The carrying out of one statement about a table, for somebody who sees some rows."""

    def __init__(self, world, heap, table, sees):
        self.rules = world.rules_of(table)
        self.heap = heap
        self.table = table
        self.sees = sees
        self.writes = []

    def carry_out(self, statement):
        """Carry out the statement and return its tell, or raise a refusal."""
        parts = statement[2:]
        word = statement[0]
        if is_question(statement):
            return answer(statement, [row for _, row in self.found(parts[0])])
        if word == "put":
            return self.run_put(*parts)
        if word == "change":
            return self.run_change(*parts)
        if word == "remove":
            return self.run_remove(*parts)
        return self.run_upsert(*parts)

    def seen(self):
        """Return the pairs of a number and a row that are seen."""
        return [(number, row) for number, row in self.heap.pairs(self.table) if self.sees(self.table, row)]

    def found(self, condition):
        """Return the found pairs, in the order in which they are taken."""
        return in_order([pair for pair in self.seen() if truth(condition, pair[1])])

    def check_new(self, number, new):
        """Refuse a new row under a number, for what is stored under the other numbers."""
        if not self.sees(self.table, new):
            raise HiddenRow()
        rule = first_clash(self.rules, new, [row for at, row in self.seen() if at != number])
        if rule != "":
            raise Duplicate(rule)

    def store(self, number, old, new):
        """Store the new row, or none, in the place of the old one."""
        self.heap.write(self.table, number, new)
        self.writes.append((self.table, number, old, new))

    def run_put(self, row):
        """Add a row."""
        number = self.heap.fresh
        self.check_new(number, row)
        self.store(number, None, row)
        return ("put", row)

    def run_change(self, condition, column, value):
        """Set a column of the found rows."""
        pairs = self.found(condition)
        for number, old in pairs:
            new = altered(old, column, value)
            self.check_new(number, new)
            self.store(number, old, new)
        return ("changed", len(pairs))

    def run_remove(self, condition):
        """Take the found rows away."""
        pairs = self.found(condition)
        for number, old in pairs:
            self.store(number, old, None)
        return ("removed", len(pairs))

    def run_upsert(self, asked, names, sets):
        """Change the one row that clashes with the asked one by a named rule, or add the asked one."""
        if not self.sees(self.table, asked):
            raise HiddenRow()
        pair = self.upserted_pair(asked, names)
        if pair is None:
            return self.run_put(asked)
        number, old = pair
        new = upserted(old, asked, sets)
        if new != old:
            self.check_new(number, new)
            self.store(number, old, new)
        return self.tell_upsert(asked, old, new)

    def upserted_pair(self, asked, names):
        """Return the one seen pair whose row clashes with the asked one by a named rule, or None."""
        rules = [rule for rule in self.rules if rule[0] in names]
        pairs = [pair for pair in self.seen() if any([clash(rule, asked, pair[1]) for rule in rules])]
        if len(pairs) > 1:
            raise Ambiguous()
        return pairs[0] if len(pairs) == 1 else None

    def tell_upsert(self, asked, old, new):
        """Return the tell of an upsert that found the old row and made the new one."""
        return ("kept", old) if new == old else ("changed", old, new)

    def undo(self):
        """Take the writes back, the last one first."""
        for table, number, old, _ in reversed(list(self.writes)):
            self.heap.write(table, number, old)


def run_plainly(world, heap, statement, sees):
    """Carry out a statement and return its tell and its writes."""
    run = PlainRun(world, heap, statement[1], sees)
    try:
        tell = run.carry_out(statement)
    except Refusal as refusal:
        run.undo()
        return refusal.told, []
    return tell, run.writes
