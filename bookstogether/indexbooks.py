"""Partial indexes and their book."""

from bookstogether.booklines import check_option, read_options, write_options
from bookstogether.conditions import may_stand, truth
from bookstogether.errors import InvalidBook, UnknownIndex
from bookstogether.names import is_name
from bookstogether.rows import COLUMNS
from bookstogether.words import MISSING, LineReader, write_condition

PART = "indexes"
WRITES = ("both", "column", "put")
SERVES = ("implied", "possible", "true")


class Index:
    """A partial index on a column of a table; it may hold a rule."""

    def __init__(self, name, table, column, condition, rule=""):
        self.name = name
        self.table = table
        self.column = column
        self.condition = condition
        self.rule = rule

    @classmethod
    def of_rule(cls, rule):
        """Return the index that holds this rule and has its name, table, column and condition."""
        name, table, column, condition = rule
        return cls(name, table, column, condition, name)

    @property
    def as_rule(self):
        """The tuple of a rule like this index, with the name of the rule that it holds."""
        return (self.rule, self.table, self.column, self.condition)

    def holds(self, row):
        """Tell whether the index holds a row of its table."""
        return bool(truth(self.condition, row))


def index_group(index, row):
    """Return the index group of a row, or None."""
    return row[index.column] if index.holds(row) else None


class IndexBook:
    """Partial indexes, and how they follow writes and serve questions."""

    MOST = 6

    def __init__(self, *indexes, writes="both", serves="implied"):
        check_option(PART, writes, WRITES)
        check_option(PART, serves, SERVES)
        if len(indexes) > IndexBook.MOST:
            raise InvalidBook(PART)
        self.indexes = indexes
        self.writes = writes
        self.serves = serves

    @classmethod
    def of_world(cls, world):
        """Return the book with an index for each rule of the world."""
        indexes = [Index.of_rule(rule) for rule in world.rules]
        return cls(*indexes)

    def index(self, name):
        """Return the index of this name."""
        for index in self.indexes:
            if index.name == name:
                return index
        raise UnknownIndex(name)

    def holder(self, rule):
        """Return the first index that holds the rule of this name, or None."""
        for index in self.indexes:
            if index.rule == rule:
                return index
        return None

    def of_table(self, table):
        """Return the tuple of the indexes of a table, in order."""
        return tuple([index for index in self.indexes if index.table == table])

    def check(self, world):
        """Raise InvalidBook if the book does not fit the world."""
        names = [index.name for index in self.indexes]
        if len(set(names)) < len(names) or not all([_fits(world, index) for index in self.indexes]):
            raise InvalidBook(PART)
        held = [index.rule for index in self.indexes]
        if len(held) > 0 and not all([held.count(rule[0]) == 1 for rule in world.rules]):
            raise InvalidBook(PART)

    def lines(self):
        """Return the lines that write the book."""
        options = [("writes", self.writes), ("serves", self.serves)]
        return [write_options(PART, options)] + [_write_index(index) for index in self.indexes]

    @classmethod
    def from_lines(cls, lines):
        """Return the book that is written in pairs of a line number and a line."""
        writes, serves = read_options(PART, (("writes", WRITES), ("serves", SERVES)), lines)
        indexes = [_read_index(line, text) for line, text in lines[1:]]
        return cls(*indexes, writes=writes, serves=serves)


def _fits(world, index):
    """Tell whether an index alone fits the world."""
    if not is_name(index.name) or index.table not in world or index.column not in COLUMNS:
        return False
    if index.rule != "" and index.rule not in [rule[0] for rule in world.rules_of(index.table)]:
        return False
    return may_stand(index.condition)


def _write_index(index):
    """Return the line of an index."""
    rule = index.rule or MISSING
    return f"index {index.name} {index.table} {index.column} {rule} {write_condition(index.condition)}"


def _read_index(line, text):
    """Return the index that is written in a line."""
    reader = LineReader(line, text)
    reader.take_one_of(("index",))
    name = reader.take_name()
    table = reader.take_name()
    column = reader.take_number()
    rule = reader.take_name_or_missing()
    condition = reader.take_condition()
    reader.end()
    return Index(name, table, column, condition, rule)
