"""Worlds: tables and their rules; groups and clashes of rows."""

from bookstogether.conditions import check_standing_condition, truth
from bookstogether.errors import InvalidWorld, UnknownRule, UnknownTable
from bookstogether.names import check_name
from bookstogether.rows import COLUMNS, all_rows


class World:
    """Two or three tables with at most two rules for each."""

    TABLES = 3
    RULES = 2

    def __init__(self, tables, rules=()):
        self.tables = tuple(tables)
        self.rules = tuple(rules)
        if not 2 <= len(self.tables) <= World.TABLES:
            raise InvalidWorld("a world has 2 or 3 tables")
        for at, table in enumerate(self.tables):
            self._check_table(table, self.tables[:at])
        for at, rule in enumerate(self.rules):
            self._check_rule(rule, self.rules[:at])

    def _check_table(self, table, earlier):
        check_name(table)
        if table in earlier:
            raise InvalidWorld("two tables have the same name")

    def _check_rule(self, rule, earlier):
        name, table, column, condition = rule
        check_name(name)
        if name in [other[0] for other in earlier]:
            raise InvalidWorld("two rules have the same name")
        if table not in self.tables:
            raise UnknownTable(table)
        if column not in COLUMNS:
            raise InvalidWorld("the column of a rule is not 0, 1 or 2")
        check_standing_condition(condition)
        if [other[1] for other in earlier].count(table) == World.RULES:
            raise InvalidWorld("a table has too many rules")

    def __len__(self):
        return len(self.tables)

    def __contains__(self, table):
        return table in self.tables

    def __iter__(self):
        return iter(self.tables)

    def rules_of(self, table):
        """Return the tuple of the rules of a table, in order."""
        if table not in self.tables:
            raise UnknownTable(table)
        return tuple([rule for rule in self.rules if rule[1] == table])

    def rule(self, name):
        """Return the rule of this name."""
        for rule in self.rules:
            if rule[0] == name:
                return rule
        raise UnknownRule(name)


def group(rule, row):
    """Return the group of a row under a rule, or None."""
    if truth(rule[3], row):
        return row[rule[2]]
    return None


def clash(rule, row, other):
    """Tell whether two rows of a table clash by a rule."""
    own = group(rule, row)
    return own is not None and own == group(rule, other)


def first_clash(rules, row, others):
    """Return the name of the first rule by which the row clashes with one of the others, or an empty string."""
    for rule in rules:
        own = group(rule, row)
        if own is not None and own in [group(rule, other) for other in others]:
            return rule[0]
    return ""


def first_grouped(world):
    """Return the name of the first rule that has a group for a row, with the first such row, or None."""
    for rule in world.rules:
        for row in all_rows():
            if group(rule, row) is not None:
                return (rule[0], row)
    return None
