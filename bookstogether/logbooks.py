"""The book of the log."""

from bookstogether.booklines import check_option, read_only_line, write_options

PART = "log"


class LogBook:
    """When and what the log is told, how followers confirm what they read, and where the log is cut."""

    WHEN = ("end", "begin", "write")
    WHAT = ("image", "statement")
    KEPT = ("own", "logged")
    CONFIRM = ("with", "behind", "ahead")
    CUT = ("never", "least", "greatest")

    def __init__(self, *, when="end", what="image", kept="own", confirm="with", cut="never"):
        check_option(PART, when, LogBook.WHEN)
        check_option(PART, what, LogBook.WHAT)
        check_option(PART, kept, LogBook.KEPT)
        check_option(PART, confirm, LogBook.CONFIRM)
        check_option(PART, cut, LogBook.CUT)
        self.when = when
        self.what = what
        self.kept = kept
        self.confirm = confirm
        self.cut = cut

    def check(self, world):
        """Raise nothing: the book fits every world."""

    def lines(self):
        """Return the line that writes the book, in a list."""
        options = [("when", self.when), ("what", self.what), ("kept", self.kept)]
        return [write_options(PART, options + [("confirm", self.confirm), ("cut", self.cut)])]

    @classmethod
    def from_lines(cls, lines):
        """Return the book that is written in pairs of a line number and a line."""
        options = (
            ("when", LogBook.WHEN),
            ("what", LogBook.WHAT),
            ("kept", LogBook.KEPT),
            ("confirm", LogBook.CONFIRM),
            ("cut", LogBook.CUT),
        )
        when, what, kept, confirm, cut = read_only_line(PART, options, lines)
        return cls(when=when, what=what, kept=kept, confirm=confirm, cut=cut)
