"""The books of all parts together."""

from bookstogether.copybooks import CopyBook
from bookstogether.errors import InvalidBook
from bookstogether.hidingbooks import HidingBook
from bookstogether.indexbooks import IndexBook
from bookstogether.lockbooks import LockBook
from bookstogether.logbooks import LogBook
from bookstogether.lookbooks import LookBook
from bookstogether.summarybooks import SummaryBook
from bookstogether.upsertbooks import UpsertBook

PARTS = ("upserts", "indexes", "locks", "hiding", "looks", "summaries", "log", "copies")


class Books:
    """One book for each part; a part without a book has its plain book."""

    def __init__(
        self,
        *,
        upserts=None,
        indexes=None,
        locks=None,
        hiding=None,
        looks=None,
        summaries=None,
        log=None,
        copies=None,
    ):
        self.upserts = UpsertBook() if upserts is None else upserts
        self.indexes = IndexBook() if indexes is None else indexes
        self.locks = LockBook() if locks is None else locks
        self.hiding = HidingBook() if hiding is None else hiding
        self.looks = LookBook() if looks is None else looks
        self.summaries = SummaryBook() if summaries is None else summaries
        self.log = LogBook() if log is None else log
        self.copies = CopyBook() if copies is None else copies

    def _by_part(self):
        """Return a dict of the books by their parts, in order."""
        books = [self.upserts, self.indexes, self.locks, self.hiding, self.looks, self.summaries, self.log, self.copies]
        return {part: book for part, book in zip(PARTS, books)}

    def book(self, part):
        """Return the book of a part."""
        books = self._by_part()
        if part not in books:
            raise InvalidBook(part)
        return books[part]

    def only(self, *parts):
        """Return books in which all other parts have their plain books."""
        chosen = {part: self.book(part) for part in parts}
        return Books(**chosen)

    def altered(self, **books):
        """Return books in which the named parts have other books."""
        chosen = self._by_part()
        for part, book in books.items():
            if part not in PARTS:
                raise InvalidBook(part)
            chosen[part] = book
        return Books(**chosen)

    def check(self, world):
        """Raise InvalidBook for the first part whose book does not fit the world, or for names that are shared."""
        for book in self._by_part().values():
            book.check(world)
        names = [index.name for index in self.indexes.indexes]
        if any([summary.name in names for summary in self.summaries.summaries]):
            raise InvalidBook("summaries")

    def lines(self):
        """Return the lines that write all books."""
        return [line for book in self._by_part().values() for line in book.lines()]
