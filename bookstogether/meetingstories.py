"""Least stories under which the findings of a verdict show as faults.

Each function below returns the rows of a start, as pairs of a table and a row, and the turns of a story. Its name is
that of the finding, behind that of the parts where several have findings of this name.
"""

from bookstogether.conditions import atom, only
from bookstogether.rows import COLUMNS, FREE, VALUES
from bookstogether.stores import Store
from bookstogether.viewing import probe

ALWAYS = ("always",)
NEVER = ("not", ("always",))


def _other_value(value):
    """Return the first value that is another one."""
    return [other for other in VALUES if other != value][0]


def _put(user, table, row):
    """Return the turn of a put."""
    return ("do", user, ("put", table, row))


def _count(user, table, condition, by=""):
    """Return the turn of a count."""
    return ("do", user, ("count", table, condition, by))


def _change_to(user, table, old, new):
    """Return the turn that makes an old row a new one, which differs from it at one column."""
    column = [column for column in COLUMNS if old[column] != new[column]][0]
    return ("do", user, ("change", table, only(old), column, new[column]))


def _asked(world, books, finding):
    _, name, row = finding
    table = world.rule(name)[1]
    sets = ((0, _other_value(row[0])),)
    return [(table, row)], [("do", 0, ("upsert", table, row, (name,), sets))]


def _writes(world, books, finding):
    _, name, before, after = finding
    table = books.indexes.index(name).table
    return [(table, before)], [_change_to(0, table, before, after), _count(0, table, only(after), name)]


def _serves(world, books, finding):
    _, name, row = finding
    table = books.indexes.index(name).table
    return [(table, row)], [_count(0, table, only(row), name)]


def _errors(world, books, finding):
    name = finding[1]
    row = (0, 0, 0)
    table = books.indexes.index(name).table
    _, _, condition, _ = probe(table, row)
    return [(table, row)], [_count(0, table, condition, name)]


def _rules(world, books, finding):
    _, table, first, second = finding
    return [(table, first)], [_put(0, table, second)]


def _lasts(world, books, finding):
    table = world.tables[0]
    return [], [_put(0, table, FREE), _count(1, table, ALWAYS), ("back", 0)]


def _rows(world, books, finding):
    table = world.tables[0]
    return [], [_count(0, table, ALWAYS), _put(1, table, FREE), ("end", 1)]


def _ring(world, books, finding):
    table = world.tables[0]
    users = (0, 1)
    return [], [_count(user, table, ALWAYS) for user in users] + [_put(user, table, FREE) for user in users]


def _checks(world, books, finding):
    _, name, row = finding
    table = world.rule(name)[1]
    return [], [_put(0, table, row), _put(1, table, row), ("end", 1)]


def _first(world, books, finding):
    _, user, table, row, _ = finding
    return [(table, row)], [("do", user, probe(table, row))]


def _counts(world, books, finding):
    table = world.tables[0]
    return [(table, FREE)], [_count(0, table, NEVER)]


def _stays(world, books, finding):
    _, name, row = finding
    summary = books.summaries.summary(name)
    gone = ("remove", summary.table, only(row))
    return [(summary.table, row)], [("do", 0, gone), ("do", 0, summary.question())]


def _followed(world):
    """Return the turns by which a follower reads the unit of a script."""
    return [_put(0, world.tables[0], FREE), ("end", 0), ("follow", 0)]


def _stopped(world, books, finding):
    return [], _followed(world) + [("stop", 0)]


def _cut(world, books, finding):
    # Only what is confirmed can be cut.
    confirmed = [("confirm", 0)] if books.log.confirm == "behind" else []
    return [], _followed(world) + confirmed + [("cut",)]


def _undo(world, books, finding):
    return [], [_put(0, world.tables[0], FREE), ("back", 0)]


def _promise(world, books, finding):
    table = world.tables[0]
    question = ("count", table, ALWAYS, "")
    written = [_put(0, table, FREE), ("end", 0)]
    if finding[0] == "seen":
        return [], written + [("follow", 0), ("ask", 1, 0, question), ("ask", 1, 1, question)]
    if "own" not in books.copies.marks:
        return [], written + [("ask", 0, 0, question)]
    # A mark of own scripts keeps nothing of what other users wrote.
    return [], written + [("do", 1, question), ("end", 1), ("ask", 1, 0, question)]


def _arbiter(world, books, finding):
    _, name, _, row, other = finding
    table = world.rule(name)[1]
    return [(table, other)], [("do", 0, ("upsert", table, row, (name,), ()))]


def _sees(world, books, finding):
    _, user, name, row, other = finding
    table = world.rule(name)[1]
    return [(table, other)], [("do", user, ("upsert", table, row, (name,), ()))]


def _marks(world, books, finding):
    _, name, row = finding
    index = books.indexes.index(name)
    column = [column for column in COLUMNS if column != index.column][0]
    change = ("change", index.table, only(row), column, _other_value(row[column]))
    return [(index.table, row)], [_count(0, index.table, only(row), name), ("do", 1, change), ("end", 1)]


def _holds(world, books, finding):
    _, user, name, row, other = finding
    table = books.indexes.index(name).table
    return [(table, other)], [_put(user, table, row)]


def _claim(world, books, finding):
    _, name, value, rows = finding
    index = books.indexes.index(name)
    condition = ("and", index.condition, atom(index.column, value))
    return [(index.table, row) for row in rows], [_count(0, index.table, condition, name)]


def _edge(world, books, finding):
    _, name, _, row = finding
    summary = books.summaries.summary(name)
    return [(summary.table, row)], [("do", 0, summary.question())]


def _start(world, books, finding):
    _, name, row = finding
    table = books.indexes.index(name).table
    question = ("count", table, only(row), name)
    return [], [_put(0, table, row), ("end", 0), ("follow", 0), ("ask", 0, 0, question)]


def _behind(world, books, finding):
    first, second = world.tables[:2]
    if books.locks.clash == "wait":
        count = _count(1, first, ALWAYS)
        return [(first, FREE)], [_count(0, first, ALWAYS), count, ("end", 0), count]
    # Only a user with a lesser age waits, so it begins with another table.
    count = _count(0, first, ALWAYS)
    return [], [_put(0, second, FREE), _put(1, first, FREE), count, ("end", 1), count]


def _unkept(world, books, finding):
    _, name, row = finding
    summary = books.summaries.summary(name)
    return [], [("do", 0, summary.question()), _put(1, summary.table, row), ("end", 1)]


def _image(world, books, finding):
    _, name, row, other = finding
    summary = books.summaries.summary(name)
    puts = [_put(0, summary.table, row), _put(1, summary.table, other)]
    return [], puts + [("back", 0), ("do", 1, summary.question())]


def _begin(world, books, finding):
    first, second = world.tables[:2]
    gone = ("do", 0, ("remove", first, ALWAYS))
    return [], [_put(0, second, FREE), _put(1, first, FREE), ("end", 1), gone, ("end", 0)]


def _told(world, books, finding):
    _, user, table, row = finding
    return [(table, row)], [_count(user, table, ALWAYS)]


def _alike(world, books, finding):
    _, name, user, row = finding
    summary = books.summaries.summary(name)
    return [(summary.table, row)], [("do", user, summary.question())]


def _unseen(world, books, finding):
    _, user, table, row, other = finding
    # One of the two is the first row of all, which has no known values, so they do not clash.
    return [(table, row), (table, other)], [("do", user, ("remove", table, ALWAYS)), ("end", user)]


def _hides(world, books, finding):
    _, user, table, row = finding
    return [(table, row)], [("ask", user, 0, ("count", table, ALWAYS, ""))]


def _lazy(world, books, finding):
    _, name, row = finding
    summary = books.summaries.summary(name)
    # The row that stays is looked at when the summary is settled; its own share is unknown.
    gone = ("do", 0, ("remove", summary.table, only(row)))
    return [(summary.table, row), (summary.table, FREE)], [gone, ("do", 0, summary.question())]


def _twice(world, books, finding):
    _, name, row = finding
    table = books.summaries.summary(name).table
    return [], [_put(0, table, row), ("end", 0), ("follow", 0), ("stop", 0)]


def _main(world, books, finding):
    _, name, row = finding
    summary = books.summaries.summary(name)
    return [], [_put(0, summary.table, row), ("ask", 1, 0, summary.question())]


def _midway(world, books, finding):
    table = world.tables[0]
    return [], [_put(0, table, FREE), ("follow", 0), ("ask", 1, 0, ("count", table, ALWAYS, ""))]


def _again(world, books, finding):
    question = ("count", world.tables[0], ALWAYS, "")
    return [], _followed(world) + [("stop", 0), ("ask", 1, 0, question)]


# For the parts and the word of each finding what makes its story.
STORIES = {
    ("upserts", "asked"): _asked,
    ("indexes", "writes"): _writes,
    ("indexes", "serves"): _serves,
    ("indexes", "errors"): _errors,
    ("indexes", "rules"): _rules,
    ("locks", "lasts"): _lasts,
    ("locks", "rows"): _rows,
    ("locks", "ring"): _ring,
    ("locks", "checks"): _checks,
    ("hiding", "first"): _first,
    ("looks", "counts"): _counts,
    ("summaries", "stays"): _stays,
    ("log", "ahead"): _stopped,
    ("log", "cut"): _cut,
    ("log", "again"): _stopped,
    ("log", "undo"): _undo,
    ("copies", "own"): _promise,
    ("copies", "seen"): _promise,
    ("copies", "main"): _promise,
    ("upserts", "indexes", "arbiter"): _arbiter,
    ("upserts", "hiding", "sees"): _sees,
    ("indexes", "locks", "marks"): _marks,
    ("indexes", "hiding", "holds"): _holds,
    ("indexes", "looks", "claim"): _claim,
    ("indexes", "summaries", "edge"): _edge,
    ("indexes", "copies", "start"): _start,
    ("locks", "looks", "behind"): _behind,
    ("locks", "summaries", "unkept"): _unkept,
    ("locks", "summaries", "image"): _image,
    ("locks", "log", "begin"): _begin,
    ("hiding", "looks", "told"): _told,
    ("hiding", "summaries", "alike"): _alike,
    ("hiding", "log", "unseen"): _unseen,
    ("hiding", "copies", "hides"): _hides,
    ("looks", "summaries", "lazy"): _lazy,
    ("summaries", "log", "twice"): _twice,
    ("summaries", "copies", "main"): _main,
    ("log", "copies", "midway"): _midway,
    ("log", "copies", "again"): _again,
}


def least_story(world, books, parts, finding):
    """Return a store and turns under which a finding of these parts shows, and of which each turn is needed."""
    kind = (*parts, finding[0])
    told = STORIES[kind]
    rows, turns = told(world, books, finding)
    store = Store(world, books.only(*parts).hiding.sight)
    for table, row in rows:
        store.load(table, row)
    return (store, tuple(turns))
