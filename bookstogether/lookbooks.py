"""The book of the looks."""

from bookstogether.booklines import YES_NO, check_option, read_options, write_options, yes_or_no
from bookstogether.errors import InvalidBook
from bookstogether.names import is_name
from bookstogether.words import LineReader

PART = "looks"
COUNTS = ("looked", "found")
DIGITS = ("0", "1", "2", "3", "4", "5", "6", "7", "8", "9")


class LookBook:
    """Claims, which are pairs of the name of an index and a number of looks, and whether and which looks are told."""

    MOST = 4

    def __init__(self, *claims, tells=False, counts="looked"):
        check_option(PART, counts, COUNTS)
        names = [index for index, _ in claims]
        if len(names) > LookBook.MOST or len(set(names)) < len(names):
            raise InvalidBook(PART)
        if not all([is_name(index) and 1 <= most <= 9 for index, most in claims]):
            raise InvalidBook(PART)
        self.claims = claims
        self.tells = tells
        self.counts = counts

    def check(self, world):
        """Raise nothing: the book fits every world."""

    def lines(self):
        """Return the lines that write the book."""
        options = write_options(PART, [("tells", yes_or_no(self.tells)), ("counts", self.counts)])
        return [options] + [f"claim {index} {most}" for index, most in self.claims]

    @classmethod
    def from_lines(cls, lines):
        """Return the book that is written in pairs of a line number and a line."""
        tells, counts = read_options(PART, (("tells", YES_NO), ("counts", COUNTS)), lines)
        chosen = tells == "yes"
        claims = [_read_claim(line, text) for line, text in lines[1:]]
        return cls(*claims, tells=chosen, counts=counts)


def _read_claim(line, text):
    """Return the claim that is written in a line."""
    reader = LineReader(line, text)
    reader.take_one_of(("claim",))
    index = reader.take_name()
    most = int(reader.take_one_of(DIGITS))
    reader.end()
    return (index, most)
