"""One place of the store: a heap with the entries of its indexes and the totals of its summaries."""

from bookstogether.answers import answer
from bookstogether.entries import Entries
from bookstogether.errors import ZeroDivisor
from bookstogether.likeness import serves
from bookstogether.looking import look_count
from bookstogether.passing import counted, passes
from bookstogether.serving import span
from bookstogether.statements import is_question
from bookstogether.totals import Totals

BY_TABLE = ("table",)


def edge_index(books, summary):
    """Return the index at whose edge the value of a summary stands, or None."""
    if summary.kind != "greatest":
        return None
    named = [index for name, index in books.summaries.edges if name == summary.name]
    for index in books.indexes.of_table(summary.table):
        if index.name in named and index.column == summary.column:
            return index
    return None


class Shelf:
    """A heap, the entries and the totals over it, under books."""

    def __init__(self, world, books, heap, entries, totals):
        self.world = world
        self.books = books
        self.heap = heap
        self.entries = entries
        self.totals = totals

    def write(self, table, number, old, new, *, kept=True):
        """Store a new row, or none, in the place of an old one, or of none."""
        self.heap.write(table, number, new)
        self.entries.write(table, number, old, new)
        if kept:
            self.totals.write(table, number, old, new)

    def road(self, user, question):
        """Return the road of a question of a user."""
        if not is_question(question):
            return BY_TABLE
        table, condition = question[1:3]
        by = question[-1]
        book = self.books.summaries
        for summary in book.of_table(table):
            if summary.name == by and serves(book, summary, self.books.hiding.sight, user, question):
                return ("summary", by)
        for index in self.books.indexes.of_table(table):
            listed = span(self.books.indexes, index, condition) if index.name == by else None
            if listed is not None:
                return ("index", by, listed)
        return BY_TABLE

    def candidates(self, table, road):
        """Return the pairs of a number and a row to which a road by the table or by an index leads, in order."""
        if road[0] == "table":
            return self.heap.pairs(table)
        _, name, values = road
        numbers = self.entries.numbers(name, values)
        return [(number, self.heap[number][1]) for number in numbers if number in self.heap]

    def passing(self, user, table, condition, pairs):
        """Return the pairs whose rows pass the test of a condition for a user, in order; it may divide by 0."""
        hiding = self.books.hiding
        return [pair for pair in pairs if passes(hiding, user, table, pair[1], condition)]

    def ask(self, user, question, road):
        """Return the tell of a question by its road, and its looks; it may divide by 0."""
        if road[0] == "summary":
            return self._ask_summary(road[1])
        table, condition = question[1:3]
        pairs = self.candidates(table, road)
        found = self.passing(user, table, condition, pairs)
        looks = self._count_looks(user, table, pairs, len(found))
        return (answer(question, [row for _, row in found]), looks)

    def _ask_summary(self, name):
        """Return the tell of a summary and the looks; if it is open, it is settled."""
        summary = self.books.summaries.summary(name)
        looks = self._summary_looks(summary)
        index = edge_index(self.books, summary)
        if index is not None:
            known = [value for value, _ in self.entries.listed(index.name) if value is not None]
            return ((summary.kind, max(known, default=None)), looks)
        if self.totals.is_open(name):
            self.totals.settle(name)
        return ((summary.kind, self.totals.current(name)), looks)

    def _count_looks(self, user, table, pairs, found):
        """Return the looks that are told for these candidates, of which so many are found."""
        looked = counted(self.books.hiding, user, table, [row for _, row in pairs])
        return look_count(self.books.looks, looked, found)

    def _summary_looks(self, summary):
        """Return the looks that are told for a question by a summary."""
        opened = edge_index(self.books, summary) is None and self.totals.is_open(summary.name)
        many = len(self.heap.numbers(summary.table)) if opened else 0
        return look_count(self.books.looks, many, many)

    def looks_ahead(self, user, question, road):
        """Return the looks that a question would have, without settling anything; a refusal finds no rows."""
        if road[0] == "summary":
            return self._summary_looks(self.books.summaries.summary(road[1]))
        table, condition = question[1:3]
        pairs = self.candidates(table, road)
        try:
            found = len(self.passing(user, table, condition, pairs))
        except ZeroDivisor:
            found = 0
        return self._count_looks(user, table, pairs, found)


def shelf_of(world, books, heap):
    """Return a shelf on a heap, with the entries and the values that are due for its rows."""
    entries = Entries(books.indexes)
    entries.fill(heap)
    return Shelf(world, books, heap, entries, Totals(books.summaries, heap))
