"""The meetings of the books of two parts: what goes wrong under both that goes wrong under neither."""

from bookstogether.arbiters import arbiter_gap
from bookstogether.evening import uneven
from bookstogether.names import USERS
from bookstogether.packing import row_groups
from bookstogether.roads import claim_gap
from bookstogether.rows import all_rows
from bookstogether.shelves import edge_index


def _counted_rows(summary):
    """Return the rows that a summary counts, ascending."""
    return [row for row in all_rows() if summary.share(row) != summary.share(None)]


def _held_rows(index):
    """Return the rows that an index holds, ascending."""
    return [row for row in all_rows() if index.holds(row)]


def _first_held(word, books):
    """Return a finding with the first index that holds a row, and its first row, if there is one."""
    for index in books.indexes.indexes:
        for row in _held_rows(index):
            return [(word, index.name, row)]
    return []


def _first_counted(word, books, kinds):
    """Return a finding with the first summary of these kinds that counts a row, and its first row, if there is one."""
    for summary in books.summaries.summaries:
        if summary.kind in kinds:
            for row in _counted_rows(summary):
                return [(word, summary.name, row)]
    return []


def _first_hidden(word, world, books):
    """Return a finding with the first user, table and row that is hidden, if there is one."""
    for user in USERS:
        for table in world:
            for row in books.hiding.sight.hidden(user, table):
                return [(word, user, table, row)]
    return []


def _arbiters(world, books):
    """Return the findings of the meeting of upserts and indexes."""
    found = []
    for name, arbiter in books.upserts:
        rule = world.rule(name)
        for index in books.indexes.of_table(rule[1]):
            gap = arbiter_gap(rule, index.column, index.condition, books.upserts.again)
            if index.name == arbiter and gap is not None:
                found.append(("arbiter", name, arbiter, *gap))
    return found


def _sees(world, books):
    """Return the findings of the meeting of upserts and hiding."""
    gap = uneven(world, books.hiding.sight)
    if books.upserts.sees != "all" or gap is None:
        return []
    return [("sees", *gap)]


def _marks(world, books):
    """Return the findings of the meeting of indexes and locks."""
    locks = books.locks
    if locks.marks != "written" or locks.read != "road" or locks.write != "row" or books.indexes.writes != "column":
        return []
    return _first_held("marks", books)


def _holds(world, books):
    """Return the findings of the meeting of indexes and hiding."""
    for index in books.indexes.indexes:
        rows = [row for row in _held_rows(index) if index.rule != "" and row[index.column] is not None]
        for user in USERS:
            hidden = [row for row in rows if not books.hiding.sight(user, index.table, row)]
            for row in rows:
                for other in hidden:
                    if row not in hidden and row[index.column] == other[index.column]:
                        return [("holds", user, index.name, row, other)]
    return []


def _claims(world, books):
    """Return the findings of the meeting of indexes and looks."""
    found = []
    indexes = {index.name: index for index in books.indexes.indexes}
    for name, most in books.looks.claims:
        if books.looks.tells and name in indexes:
            index = indexes[name]
            gap = claim_gap(world, index.table, index.column, index.condition, most)
            if gap is not None:
                value, rows = gap
                found.append(("claim", name, value, tuple(rows)))
    return found


def _edges(world, books):
    """Return the findings of the meeting of indexes and summaries."""
    found = []
    for name, _ in books.summaries.edges:
        summary = books.summaries.summary(name)
        index = edge_index(books, summary)
        row = None if index is None else _edge_gap(summary, index)
        if row is not None:
            found.append(("edge", name, index.name, row))
    return found


def _edge_gap(summary, index):
    """Return the first row with a known value that just one of a summary and an index has, or None."""
    counted = _counted_rows(summary)
    for row in all_rows():
        if row[index.column] is not None and (row in counted) != index.holds(row):
            return row
    return None


def _start(world, books):
    """Return the findings of the meeting of indexes and copies."""
    if not books.copies.served or books.copies.indexes != "start":
        return []
    return _first_held("start", books)


def _behind(world, books):
    """Return the findings of the meeting of locks and looks."""
    locks = books.locks
    if not books.looks.tells or locks.asks != "behind":
        return []
    if locks.clash == "wait" or (locks.clash == "age" and locks.write != "store"):
        return [("behind",)]
    return []


def _unlocked_summaries(world, books):
    """Return the findings of the meeting of locks and summaries."""
    if books.locks.write != "row":
        return []
    unkept = books.locks.kept == "none" and books.locks.read in ("table", "road")
    found = _first_counted("unkept", books, ("count", "sum", "greatest")) if unkept else []
    return found + (_image(world, books) if books.summaries.undo == "image" else [])


def _image(world, books):
    """Return a finding with the first summary and two counted rows that clash by no rule, if there is one."""
    for summary in books.summaries.summaries:
        rows = _counted_rows(summary)
        groups = {row: row_groups(world, summary.table, row) for row in rows}
        for row in rows:
            for other in rows:
                if not any([pair in groups[other] for pair in groups[row]]):
                    return [("image", summary.name, row, other)]
    return []


def _begin(world, books):
    """Return the findings of the meeting of locks and the log."""
    if books.log.when == "begin" and books.locks.write != "store":
        return [("begin",)]
    return []


def _told(world, books):
    """Return the findings of the meeting of hiding and looks."""
    if not books.looks.tells or books.hiding.told != "all":
        return []
    return _first_hidden("told", world, books)


def _alike(world, books):
    """Return the findings of the meeting of hiding and summaries."""
    if books.summaries.alike != "question":
        return []
    for summary in books.summaries.summaries:
        rows = _counted_rows(summary)
        for user in USERS:
            for row in rows:
                if not books.hiding.sight(user, summary.table, row):
                    return [("alike", summary.name, user, row)]
    return []


def _unseen(world, books):
    """Return the findings of the meeting of hiding and the log."""
    if books.log.what != "statement":
        return []
    for user in USERS:
        for table in world:
            hidden = books.hiding.sight.hidden(user, table)
            shown = [row for row in all_rows() if row not in hidden]
            if len(hidden) > 0 and len(shown) > 0:
                return [("unseen", user, table, hidden[0], shown[0])]
    return []


def _hides(world, books):
    """Return the findings of the meeting of hiding and copies."""
    if not books.copies.served or books.copies.hides:
        return []
    return _first_hidden("hides", world, books)


def _lazy(world, books):
    """Return the findings of the meeting of looks and summaries."""
    if not books.looks.tells or books.summaries.greatest != "question":
        return []
    return _first_counted("lazy", books, ("greatest",))


def _twice(world, books):
    """Return the findings of the meeting of summaries and the log."""
    if books.log.kept != "logged" or books.log.confirm != "behind":
        return []
    return _first_counted("twice", books, ("count", "sum"))


def _main(world, books):
    """Return the findings of the meeting of summaries and copies."""
    if not books.copies.served or books.copies.summaries != "main":
        return []
    return _first_counted("main", books, ("count", "sum", "greatest"))


def _late(world, books):
    """Return the findings of the meeting of the log and copies."""
    if not books.copies.served:
        return []
    if books.log.when == "write":
        return [("midway",)]
    return [("again",)] if books.log.confirm == "behind" else []


# The pairs of parts that do not always meet cleanly.
MEETINGS = {
    ("upserts", "indexes"): _arbiters,
    ("upserts", "hiding"): _sees,
    ("indexes", "locks"): _marks,
    ("indexes", "hiding"): _holds,
    ("indexes", "looks"): _claims,
    ("indexes", "summaries"): _edges,
    ("indexes", "copies"): _start,
    ("locks", "looks"): _behind,
    ("locks", "summaries"): _unlocked_summaries,
    ("locks", "log"): _begin,
    ("hiding", "looks"): _told,
    ("hiding", "summaries"): _alike,
    ("hiding", "log"): _unseen,
    ("hiding", "copies"): _hides,
    ("looks", "summaries"): _lazy,
    ("summaries", "log"): _twice,
    ("summaries", "copies"): _main,
    ("log", "copies"): _late,
}


def meet_books(world, books, first, second):
    """Return the findings of the meeting of the books of two parts, of which the first one is the earlier one."""
    if (first, second) not in MEETINGS:
        return ()
    found = MEETINGS[(first, second)]
    return tuple(found(world, books))
