"""The book of the hiding rules."""

from bookstogether.booklines import check_option, read_options, write_options
from bookstogether.conditions import may_stand
from bookstogether.errors import InvalidBook
from bookstogether.names import USERS
from bookstogether.sights import Sight
from bookstogether.words import LineReader, write_condition

PART = "hiding"
FIRST = ("hide", "ask")
TOLD = ("shown", "all")


class HidingBook:
    """Hiding rules, and whether they come before a question and hide from its looks."""

    MOST = 6

    def __init__(self, *rules, first="hide", told="shown"):
        check_option(PART, first, FIRST)
        check_option(PART, told, TOLD)
        places = [(user, table) for user, table, _ in rules]
        if len(places) > HidingBook.MOST or len(set(places)) < len(places):
            raise InvalidBook(PART)
        self.rules = rules
        self.first = first
        self.told = told
        self.sight = Sight(*rules)

    def __len__(self):
        return len(self.rules)

    def __contains__(self, place):
        return place in [(user, table) for user, table, _ in self.rules]

    def __iter__(self):
        return iter(self.rules)

    def check(self, world):
        """Raise InvalidBook if the book does not fit the world."""
        for user, table, condition in self.rules:
            if user not in USERS or table not in world or not may_stand(condition):
                raise InvalidBook(PART)

    def lines(self):
        """Return the lines that write the book."""
        options = write_options(PART, [("first", self.first), ("told", self.told)])
        return [options] + [f"hide {user} {table} {write_condition(part)}" for user, table, part in self.rules]

    @classmethod
    def from_lines(cls, lines):
        """Return the book that is written in pairs of a line number and a line."""
        first, told = read_options(PART, (("first", FIRST), ("told", TOLD)), lines)
        rules = [_read_rule(line, text) for line, text in lines[1:]]
        return cls(*rules, first=first, told=told)


def _read_rule(line, text):
    """Return the hiding rule that is written in a line."""
    reader = LineReader(line, text)
    reader.take_one_of(("hide",))
    user = reader.take_number()
    table = reader.take_name()
    condition = reader.take_condition()
    reader.end()
    return (user, table, condition)
