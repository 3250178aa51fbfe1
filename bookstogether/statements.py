"""Statements and what makes them valid."""

from bookstogether.conditions import check_condition
from bookstogether.errors import InvalidStatement, UnknownTable
from bookstogether.names import check_name
from bookstogether.rows import COLUMNS, VALUES, check_row

QUESTIONS = ("rows", "count", "sum", "greatest")
WRITES = ("put", "change", "remove", "upsert")

# The kinds of the parts behind each first word and its table.
PARTS = {
    "put": ("row",),
    "change": ("condition", "column", "value"),
    "remove": ("condition",),
    "upsert": ("row", "rules", "sets"),
    "rows": ("condition", "by"),
    "count": ("condition", "by"),
    "sum": ("condition", "column", "by"),
    "greatest": ("condition", "column", "by"),
}


def is_question(statement):
    """Tell whether a statement is a question."""
    return len(statement) > 0 and statement[0] in QUESTIONS


def _has_form(statement):
    """Tell whether the first word and the number of the parts are those of a statement."""
    if len(statement) == 0:
        return False
    word = statement[0]
    return word in PARTS and len(statement) == 2 + len(PARTS[word])


def check_statement(world, statement):
    """Raise the first error of a statement, if it is not one of the world."""
    if not _has_form(statement):
        raise InvalidStatement("the first word or the number of parts fits no statement")
    word, table = statement[:2]
    if table not in world:
        raise UnknownTable(table)
    for kind, part in zip(PARTS[word], statement[2:]):
        _check_part(world, table, kind, part)


def _check_part(world, table, kind, part):
    """Raise the first error of a part of this kind of a statement about the table."""
    if kind == "row":
        check_row(part)
    elif kind == "condition":
        check_condition(part)
    elif kind == "column":
        _check_column(part)
    elif kind == "value" and part not in VALUES:
        raise InvalidStatement("not a value")
    elif kind == "rules":
        _check_rules(world, table, part)
    elif kind == "sets":
        _check_sets(part)
    elif kind == "by" and part != "":
        check_name(part)


def _check_column(column):
    if column not in COLUMNS:
        raise InvalidStatement("a column is not 0, 1 or 2")


def _check_rules(world, table, names):
    """Raise the first error of the rules that an upsert names."""
    for at, name in enumerate(names):
        if world.rule(name)[1] != table:
            raise InvalidStatement("a rule of another table is named")
        if name in names[:at]:
            raise InvalidStatement("a rule is named twice")


def _check_sets(sets):
    """Raise the first error of the pairs that an upsert sets."""
    columns = [column for column, _ in sets]
    for at, (column, source) in enumerate(sets):
        _check_column(column)
        if column in columns[:at]:
            raise InvalidStatement("a column is set twice")
        if source not in VALUES and source != "new":
            raise InvalidStatement("not the source of a column")
