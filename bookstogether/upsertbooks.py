"""The book of the upserts."""

from bookstogether.booklines import YES_NO, check_option, read_options, write_options, yes_or_no
from bookstogether.errors import InvalidBook
from bookstogether.names import is_name
from bookstogether.words import LineReader

PART = "upserts"
SEES = ("shown", "all")
TELLS = ("after", "asked")


class UpsertBook:
    """Arbiters, which are pairs of the names of a rule and of an index, and how an upsert searches and tells."""

    MOST = 4

    def __init__(self, *arbiters, again=True, sees="shown", tells="after"):
        check_option(PART, sees, SEES)
        check_option(PART, tells, TELLS)
        rules = [rule for rule, _ in arbiters]
        if len(rules) > UpsertBook.MOST or len(set(rules)) < len(rules):
            raise InvalidBook(PART)
        self.arbiters = arbiters
        self.again = again
        self.sees = sees
        self.tells = tells

    def __len__(self):
        return len(self.arbiters)

    def __contains__(self, name):
        return name in [rule for rule, _ in self.arbiters]

    def __iter__(self):
        return iter(self.arbiters)

    def arbiter(self, name):
        """Return the name of the index for the rule of this name, or an empty string."""
        for rule, index in self.arbiters:
            if rule == name:
                return index
        return ""

    def check(self, world):
        """Raise InvalidBook if the book does not fit the world."""
        known = [rule[0] for rule in world.rules]
        for rule, index in self.arbiters:
            if rule not in known or not is_name(index):
                raise InvalidBook(PART)

    def lines(self):
        """Return the lines that write the book."""
        options = [("again", yes_or_no(self.again)), ("sees", self.sees), ("tells", self.tells)]
        return [write_options(PART, options)] + [f"arbiter {rule} {index}" for rule, index in self.arbiters]

    @classmethod
    def from_lines(cls, lines):
        """Return the book that is written in pairs of a line number and a line."""
        options = (("again", YES_NO), ("sees", SEES), ("tells", TELLS))
        again, sees, tells = read_options(PART, options, lines)
        chosen = again == "yes"
        arbiters = [_read_arbiter(line, text) for line, text in lines[1:]]
        return cls(*arbiters, again=chosen, sees=sees, tells=tells)


def _read_arbiter(line, text):
    """Return the arbiter that is written in a line."""
    reader = LineReader(line, text)
    reader.take_one_of(("arbiter",))
    rule = reader.take_name()
    index = reader.take_name()
    reader.end()
    return (rule, index)
