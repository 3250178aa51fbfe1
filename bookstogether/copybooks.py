"""The book of the copies."""

from bookstogether.booklines import YES_NO, check_option, write_options, yes_or_no
from bookstogether.booklines import end_only_line, read_first, take_option
from bookstogether.errors import InvalidBook
from bookstogether.words import MISSING

PART = "copies"

# The words of marks and of promises, in their order.
MARKS = ("own", "seen", "main")


def _in_order(words):
    """Return those of the marks that are among the words, in their order."""
    return tuple([mark for mark in MARKS if mark in words])


class CopyBook:
    """Whether copies answer, what they promise to sessions, and what they have of their own."""

    INDEXES = ("own", "start")
    SUMMARIES = ("own", "main")

    def __init__(self, *, served=False, marks=(), promises=(), hides=True, indexes="own", summaries="own"):
        check_option(PART, indexes, CopyBook.INDEXES)
        check_option(PART, summaries, CopyBook.SUMMARIES)
        for words in (marks, promises):
            if _in_order(words) != tuple(words):
                raise InvalidBook(PART)
        self.served = served
        self.marks = tuple(marks)
        self.promises = tuple(promises)
        self.hides = hides
        self.indexes = indexes
        self.summaries = summaries

    @staticmethod
    def kept_by(marks):
        """Return the promises that marks keep."""
        # The greatest position that a user was told of is also not less than that of the user's own writes.
        return _in_order([*marks, "own"] if "main" in marks else marks)

    def check(self, world):
        """Raise nothing: the book fits every world."""

    def lines(self):
        """Return the line that writes the book, in a list."""
        options = [
            ("served", yes_or_no(self.served)),
            ("marks", " ".join(self.marks) or MISSING),
            ("promises", " ".join(self.promises) or MISSING),
            ("hides", yes_or_no(self.hides)),
            ("indexes", self.indexes),
            ("summaries", self.summaries),
        ]
        return [write_options(PART, options)]

    @classmethod
    def from_lines(cls, lines):
        """Return the book that is written in pairs of a line number and a line."""
        reader = read_first(PART, lines)
        served = take_option(reader, "served", YES_NO) == "yes"
        marks = _take_marks(reader, "marks")
        promises = _take_marks(reader, "promises")
        hides = take_option(reader, "hides", YES_NO) == "yes"
        indexes = take_option(reader, "indexes", CopyBook.INDEXES)
        summaries = take_option(reader, "summaries", CopyBook.SUMMARIES)
        end_only_line(reader, lines)
        return cls(served=served, marks=marks, promises=promises, hides=hides, indexes=indexes, summaries=summaries)


def _take_marks(reader, name):
    """Take an option whose words are marks, or the sign for none."""
    reader.take_one_of((name,))
    words = []
    for mark in MARKS:
        if reader.comes(mark):
            words.append(reader.take())
    if len(words) == 0:
        reader.take_one_of((MISSING,))
    return tuple(words)
