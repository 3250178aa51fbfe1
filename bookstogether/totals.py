"""The kept values of summaries next to a heap."""

from bookstogether.summarybooks import greatest_known


class Totals:
    """A value for each summary of a book, and whether it is open; the heap is read as it is at the moment."""

    def __init__(self, book, heap):
        self.book = book
        self.heap = heap
        # For each name a pair of the kept value and whether the summary is open.
        self.amounts = {}
        self.fill()

    def fill(self):
        """Keep the values that are due, with no summary open."""
        for summary in self.book.summaries:
            self.settle(summary.name)

    def settle(self, name):
        """Keep the value that is due for one summary, which is not open any more."""
        summary = self.book.summary(name)
        self.amounts[name] = (summary.due_amount(self.heap.bag(summary.table)), False)

    def write(self, table, number, old, new):
        """Follow a change that the heap already shows."""
        for name, difference in self.differences(table, old, new):
            self.add(name, difference)
        self.write_greatest(table, old, new)

    def write_greatest(self, table, old, new):
        """Follow a change in the summaries of the kind `greatest` alone."""
        for summary in self.book.of_table(table):
            if summary.kind == "greatest" and not self.is_open(summary.name):
                self._raise_or_settle(summary, summary.share(old), summary.share(new))

    def _raise_or_settle(self, summary, before, after):
        """Follow a change of a row's share in a summary of the kind `greatest` that is not open."""
        name = summary.name
        amount = self.current(name)
        # The row that had the kept value may have been the last one that had it.
        is_lost = before is not None and before == amount
        if before == after:
            return
        if is_lost and self.book.greatest == "write":
            self.settle(name)
        elif is_lost and self.book.greatest == "question":
            self.restore(name, (amount, True))
        else:
            self.restore(name, (greatest_known([amount, after]), False))

    def add(self, name, difference):
        """Add to a kept count or sum."""
        amount, opened = self.saved(name)
        self.restore(name, (amount + difference, opened))

    def saved(self, name):
        """Return the pair of the kept value and whether the summary is open."""
        return self.amounts[self.book.summary(name).name]

    def restore(self, name, pair):
        """Set the kept value and whether the summary is open."""
        amount, opened = pair
        self.amounts[self.book.summary(name).name] = (amount, opened)

    def current(self, name):
        """Return the kept value."""
        return self.saved(name)[0]

    def is_open(self, name):
        """Tell whether the summary is open."""
        return self.saved(name)[1]

    def changes(self, table, old, new):
        """Return the names of the summaries of the table in which two rows have different shares, in order."""
        summaries = self.book.of_table(table)
        return tuple([summary.name for summary in summaries if summary.share(old) != summary.share(new)])

    def differences(self, table, old, new):
        """Return the pairs of a count or sum of the table and what a change adds to it, in order, without zeros."""
        numbers = [summary for summary in self.book.of_table(table) if summary.kind != "greatest"]
        pairs = [(summary.name, summary.share(new) - summary.share(old)) for summary in numbers]
        return [(name, difference) for name, difference in pairs if difference != 0]


class GreatestOnly:
    """The side of totals that follows changes in the summaries of the kind `greatest` alone."""

    def __init__(self, totals):
        self.totals = totals

    def write(self, table, number, old, new):
        """Follow a change that the heap already shows."""
        self.totals.write_greatest(table, old, new)
