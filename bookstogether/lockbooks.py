"""The book of the locks."""

from bookstogether.booklines import check_option, read_only_line, write_options
from bookstogether.errors import InvalidBook

PART = "locks"

# The options with their words, the plain one first.
OPTIONS = (
    ("read", ("alone", "store", "table", "road", "rows")),
    ("write", ("store", "table", "row")),
    ("marks", ("holding", "written")),
    ("checks", ("key", "none")),
    ("kept", ("node", "none")),
    ("asks", ("ahead", "behind")),
    ("lasts", ("end", "turn")),
    ("clash", ("wait", "age", "back")),
)


class LockBook:
    """What is locked for readings and writings, how long, and what happens where locks meet."""

    def __init__(
        self,
        *,
        read="alone",
        write="store",
        marks="holding",
        checks="key",
        kept="node",
        asks="ahead",
        lasts="end",
        clash="wait",
    ):
        self.read = read
        self.write = write
        self.marks = marks
        self.checks = checks
        self.kept = kept
        self.asks = asks
        self.lasts = lasts
        self.clash = clash
        for (_, words), chosen in zip(OPTIONS, self._chosen()):
            check_option(PART, chosen, words)
        if read == "alone" and write != "store":
            raise InvalidBook(PART)

    def _chosen(self):
        """Return the words of the options, in order."""
        return [self.read, self.write, self.marks, self.checks, self.kept, self.asks, self.lasts, self.clash]

    def check(self, world):
        """Raise nothing: the book fits every world."""

    def lines(self):
        """Return the line that writes the book, in a list."""
        names = [name for name, _ in OPTIONS]
        return [write_options(PART, list(zip(names, self._chosen())))]

    @classmethod
    def from_lines(cls, lines):
        """Return the book that is written in pairs of a line number and a line."""
        read, write, marks, checks, kept, asks, lasts, clash = read_only_line(PART, OPTIONS, lines)
        return cls(
            read=read, write=write, marks=marks, checks=checks, kept=kept, asks=asks, lasts=lasts, clash=clash
        )
