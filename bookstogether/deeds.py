"""Carrying out statements on a shelf, under its books."""

from bookstogether.errors import Duplicate, HiddenRow, Refusal
from bookstogether.running import PlainRun, in_order
from bookstogether.searching import search
from bookstogether.statements import is_question
from bookstogether.upserting import target, upsert_tell
from bookstogether.worlds import first_clash


def _seen_by(shelf, user):
    """Return the function that tells whether the user is shown a row of a table."""

    def sees(table, row):
        return shelf.books.hiding.sight(user, table, row)

    return sees


class BookRun(PlainRun):
    """The carrying out of one statement of a user on a shelf."""

    def __init__(self, shelf, user, table):
        super().__init__(shelf.world, shelf.heap, table, _seen_by(shelf, user))
        self.shelf = shelf
        self.user = user
        # For each summary whose share was changed what was kept for it before.
        self.images = {}

    def found(self, condition):
        """Return the found pairs, in the order in which they are taken."""
        pairs = self.heap.pairs(self.table)
        return in_order(self.shelf.passing(self.user, self.table, condition, pairs))

    def check_new(self, number, new):
        """Refuse a new row under a number, for what is stored under the other numbers."""
        if not self.sees(self.table, new):
            raise HiddenRow()
        for rule in self.rules:
            if self._clashes(rule, number, new):
                raise Duplicate(rule[0])

    def _clashes(self, rule, number, new):
        """Tell whether a new row under a number clashes by a rule, as the index that holds it knows."""
        index = self.shelf.books.indexes.holder(rule[0])
        if index is None:
            return first_clash([rule], new, [row for at, row in self.seen() if at != number]) != ""
        old = self.heap[number][1] if number in self.heap else None
        entries = self.shelf.entries
        return entries.touches(index, old, new) and entries.twin(index.name, new, number)

    def store(self, number, old, new):
        """Store the new row, or none, in the place of the old one."""
        totals = self.shelf.totals
        for name in totals.changes(self.table, old, new):
            if name not in self.images:
                self.images[name] = totals.saved(name)
        self.shelf.write(self.table, number, old, new)
        self.writes.append((self.table, number, old, new))

    def upserted_pair(self, asked, names):
        """Return the pair whose row an upsert changes, or None."""
        rules = [self.shelf.world.rule(name) for name in names]
        return target([search(self.shelf, self.user, rule, asked)[1] for rule in rules])

    def tell_upsert(self, asked, old, new):
        """Return the tell of an upsert that found the old row and made the new one."""
        return upsert_tell(self.shelf.books.upserts, asked, old, new)

    def undo(self):
        """Take the writes back, the last one first."""
        for table, number, old, new in reversed(list(self.writes)):
            self.shelf.write(table, number, new, old)


def carry_out(shelf, user, statement, road):
    """Carry out a statement; return its tell, its looks, its writes, and what was kept for summaries before."""
    run = BookRun(shelf, user, statement[1])
    try:
        if is_question(statement):
            tell, looks = shelf.ask(user, statement, road)
            return (tell, looks, [], {})
        return (run.carry_out(statement), None, run.writes, run.images)
    except Refusal as refusal:
        run.undo()
        return (refusal.told, None, [], {})
