"""The texts of statements, worlds and stores."""

from bookstogether.statements import QUESTIONS, WRITES
from bookstogether.stores import Store
from bookstogether.words import MISSING, LineReader, write_condition, write_row, write_value
from bookstogether.worlds import World


def write_statement(statement):
    """Return the line of a statement."""
    word, table = statement[:2]
    return " ".join([word, table] + _statement_words(word, statement[2:]))


def _statement_words(word, parts):
    """Return what is written of a statement behind its table."""
    if word == "put":
        return [write_row(parts[0])]
    if word == "remove":
        return [write_condition(parts[0])]
    if word == "change":
        condition, column, value = parts
        return [str(column), write_value(value), write_condition(condition)]
    if word == "upsert":
        row, rules, sets = parts
        pairs = [f"{column} {write_value(source)}" for column, source in sets]
        return [write_row(row), "on", *rules, "set"] + pairs
    condition, *columns, by = parts
    return [str(column) for column in columns] + [by or MISSING, write_condition(condition)]


def read_statement(text):
    """Return the statement that is written in a line."""
    reader = LineReader(1, text)
    statement = take_statement(reader)
    reader.end()
    return statement


def take_question(reader):
    """Take the words of a question."""
    return _take_behind(reader, reader.take_one_of(QUESTIONS))


def take_statement(reader):
    """Take the words of a statement."""
    return _take_behind(reader, reader.take_one_of(WRITES + QUESTIONS))


def _take_behind(reader, word):
    """Take the words of a statement behind its first one."""
    table = reader.take_name()
    if word == "put":
        return (word, table, reader.take_row())
    if word == "remove":
        return (word, table, reader.take_condition())
    if word == "change":
        column = reader.take_number()
        value = reader.take_value()
        return (word, table, reader.take_condition(), column, value)
    if word == "upsert":
        row = reader.take_row()
        rules = _take_rules(reader)
        return (word, table, row, rules, _take_pairs(reader))
    columns = [reader.take_number()] if word in ("sum", "greatest") else []
    by = reader.take_name_or_missing()
    return (word, table, reader.take_condition(), *columns, by)


def _take_rules(reader):
    """Take the names of rules between `on` and `set`."""
    reader.take_one_of(("on",))
    rules = []
    while not reader.comes("set"):
        rules.append(reader.take_name())
    reader.take()
    return tuple(rules)


def _take_pairs(reader):
    """Take pairs of a column and a source up to the end of the line."""
    pairs = []
    while not reader.is_done():
        column = reader.take_number()
        if reader.comes("new"):
            pairs.append((column, reader.take()))
        else:
            pairs.append((column, reader.take_value()))
    return tuple(pairs)


def write_world(world):
    """Return the text of a world."""
    lines = [f"table {table}" for table in world]
    for name, table, column, condition in world.rules:
        lines.append(f"rule {name} {table} {column} {write_condition(condition)}")
    return "\n".join(lines)


def read_world(text):
    """Return the world of a text."""
    return read_world_lines(list(enumerate(text.split("\n"), start=1)))


def read_world_lines(lines):
    """Return the world that is written in pairs of a line number and a line."""
    tables = []
    rules = []
    for line, words in lines:
        reader = LineReader(line, words)
        # Behind a rule there is no line for a table.
        if reader.take_one_of(("rule",) if rules else ("table", "rule")) == "table":
            tables.append(reader.take_name())
        else:
            rules.append(_take_rule(reader))
        reader.end()
    return World(tables, rules)


def _take_rule(reader):
    """Take the parts of a rule."""
    name = reader.take_name()
    table = reader.take_name()
    column = reader.take_number()
    return (name, table, column, reader.take_condition())


def write_store(store):
    """Return the text of the rows of a store."""
    return "\n".join([f"row {table} {write_row(row)}" for table in store.world for row in store.bag(table)])


def read_store(world, text, sight=None):
    """Return a store with the rows of a text."""
    # The empty text is a store without rows, not an empty line.
    lines = [] if text == "" else text.split("\n")
    return read_store_lines(world, list(enumerate(lines, start=1)), sight)


def read_store_lines(world, lines, sight):
    """Return a store with the rows that are written in pairs of a line number and a line."""
    pairs = []
    for line, words in lines:
        reader = LineReader(line, words)
        reader.take_one_of(("row",))
        table = reader.take_name()
        pairs.append((table, reader.take_row()))
        reader.end()
    store = Store(world, sight)
    for table, row in pairs:
        store.load(table, row)
    return store
