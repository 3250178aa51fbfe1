"""Random worlds, books of all parts, starts and stories for the tests."""

from bookstogether.bookshelf import Books
from bookstogether.copybooks import CopyBook
from bookstogether.errors import InvalidBook, InvalidStore
from bookstogether.hidingbooks import HidingBook
from bookstogether.indexbooks import Index, IndexBook
from bookstogether.lockbooks import LockBook
from bookstogether.logbooks import LogBook
from bookstogether.lookbooks import LookBook
from bookstogether.stores import Store
from bookstogether.summarybooks import Summary, SummaryBook
from bookstogether.upsertbooks import UpsertBook
from bookstogether.worlds import World

from tests.samples import ALWAYS, deep, random_condition, random_row

KINDS = ("count", "sum", "greatest")
MARKS = ("own", "seen", "main")


def some_condition(chance):
    """A condition that is often simple."""
    column = chance.randrange(3)
    return chance.choice([
        ALWAYS, ("not", ("unknown", column)), ("unknown", column), ("equal", column, chance.randrange(3)),
        ("below", column, 2), random_condition(chance, 3), random_condition(chance, 3),
    ])


def some_world(chance):
    """A world of two or three tables with up to two rules on each."""
    tables = ["a", "b", "c"][:chance.choice((2, 2, 3))]
    rules = []
    for table in tables:
        for at in range(chance.randrange(3)):
            rules.append((f"{table}{'pq'[at]}", table, chance.randrange(3), some_condition(chance)))
    chance.shuffle(rules)
    return World(tables, rules)


def some_indexes(chance, world):
    """A book of indexes that fits the world."""
    if chance.randrange(8) == 0:
        indexes = []
    else:
        indexes = [Index.of_rule(rule) for rule in world.rules]
        for at, rule in enumerate(world.rules):
            if chance.randrange(4) == 0:
                indexes[at] = Index(rule[0], rule[1], chance.randrange(3), some_condition(chance), rule[0])
    while len(indexes) < 6 and chance.randrange(5) > 1 and (indexes or not world.rules):
        name = f"x{'abcdef'[len(indexes)]}"
        indexes.append(Index(name, chance.choice(world.tables), chance.randrange(3), some_condition(chance)))
    chance.shuffle(indexes)
    writes = chance.choice(("both", "both", "column", "put"))
    return IndexBook(*indexes, writes=writes, serves=chance.choice(("implied", "implied", "possible", "true")))


def some_upserts(chance, world, names):
    arbiters = [(rule[0], chance.choice(names + ["zz", rule[0]])) for rule in world.rules if chance.randrange(5) > 1]
    return UpsertBook(
        *arbiters[:4], again=chance.choice((True, True, False)), sees=chance.choice(("shown", "shown", "all")),
        tells=chance.choice(("after", "after", "asked")),
    )


def some_locks(chance):
    try:
        return LockBook(
            read=chance.choice(("alone", "store", "table", "road", "road", "rows")),
            write=chance.choice(("store", "table", "row", "row")), marks=chance.choice(("holding", "written")),
            checks=chance.choice(("key", "key", "none")), kept=chance.choice(("node", "none")),
            asks=chance.choice(("ahead", "behind")), lasts=chance.choice(("end", "end", "end", "turn")),
            clash=chance.choice(("wait", "age", "back")),
        )
    except InvalidBook:
        return some_locks(chance)


def some_hiding(chance, world):
    places = [(user, table) for user in range(3) for table in world.tables if chance.randrange(3) == 0]
    rules = [(user, table, some_condition(chance)) for user, table in places][:6]
    return HidingBook(*rules, first=chance.choice(("hide", "hide", "ask")),
                      told=chance.choice(("shown", "shown", "all")))


def some_looks(chance, names):
    chosen = chance.sample(names + ["zz"], chance.randrange(min(len(names) + 2, 5)))
    claims = [(name, chance.choice((1, 1, 2, 3, 9))) for name in chosen]
    return LookBook(*claims, tells=chance.choice((True, False)), counts=chance.choice(("looked", "looked", "found")))


def some_summaries(chance, world, indexes):
    summaries = [
        Summary(f"s{letter}", chance.choice(world.tables), chance.choice(KINDS), chance.randrange(3),
                some_condition(chance))
        for letter in "klmn"[:chance.randrange(5)]
    ]
    edges = []
    for one in summaries:
        fitting = [index.name for index in indexes if (index.table, index.column) == (one.table, one.column)]
        if chance.randrange(3) == 0:
            edges.append((one.name, chance.choice(fitting * 3 + ["zz"] + [index.name for index in indexes])))
    return SummaryBook(
        *summaries, edges=edges, alike=chance.choice(("shown", "shown", "question")),
        undo=chance.choice(("difference", "difference", "image")),
        greatest=chance.choice(("write", "question", "stays")),
    )


def some_log(chance):
    return LogBook(
        when=chance.choice(("end", "end", "begin", "write")), what=chance.choice(("image", "image", "statement")),
        kept=chance.choice(("own", "logged")), confirm=chance.choice(("with", "with", "behind", "ahead")),
        cut=chance.choice(("never", "least", "least", "greatest")),
    )


def some_copies(chance):
    marks, promises = [tuple(word for word in MARKS if chance.randrange(2)) for _ in range(2)]
    return CopyBook(
        served=chance.choice((True, True, False)), marks=chance.choice((marks, ("seen", "main"))), promises=promises,
        hides=chance.choice((True, True, False)), indexes=chance.choice(("own", "own", "start")),
        summaries=chance.choice(("own", "own", "main")),
    )


def some_books(chance, world):
    """Books of all parts that fit the world, right or wrong."""
    indexes = some_indexes(chance, world)
    names = [index.name for index in indexes.indexes]
    return Books(
        upserts=some_upserts(chance, world, names), indexes=indexes, locks=some_locks(chance),
        hiding=some_hiding(chance, world), looks=some_looks(chance, names),
        summaries=some_summaries(chance, world, indexes.indexes), log=some_log(chance), copies=some_copies(chance),
    )


def some_question(chance, world, books):
    """A question, often one by the name of a summary or an index."""
    summaries, indexes = books.summaries.summaries, books.indexes.indexes
    way = chance.randrange(3)
    if way == 0 and summaries:
        return chance.choice(summaries).question()
    word = chance.choice(("rows",) + KINDS)
    columns = (chance.randrange(3),) if word in ("sum", "greatest") else ()
    if way == 1 and indexes:
        index = chance.choice(indexes)
        more = chance.choice((random_condition(chance, 2, quotients=True),
                              ("equal", index.column, chance.randrange(3))))
        condition = chance.choice((index.condition, ("and", index.condition, more)))
        return (word, index.table, condition, *columns, index.name)
    condition = chance.choice((ALWAYS, random_condition(chance, 3, quotients=True)))
    return (word, chance.choice(world.tables), condition, *columns, "")


def some_statement(chance, world, books):
    word = chance.choice(("put", "put", "put", "change", "remove", "upsert", "upsert", "", "", ""))
    table = chance.choice(world.tables)
    condition = chance.choice((ALWAYS, random_condition(chance, 3, quotients=True), random_condition(chance, 2)))
    condition = ("and", condition, ("equal", chance.randrange(3), chance.randrange(3)))
    if word == "put":
        return (word, table, random_row(chance))
    if word == "change":
        return (word, table, condition, chance.randrange(3), chance.choice((None, 0, 1, 2)))
    if word == "remove":
        return (word, table, condition)
    if word == "":
        return some_question(chance, world, books)
    names = [rule[0] for rule in world.rules_of(table)]
    columns = chance.sample(range(3), chance.randrange(4))
    sets = tuple((column, chance.choice((None, 0, 1, 2, "new"))) for column in columns)
    return (word, table, random_row(chance), tuple(chance.sample(names, chance.randrange(len(names) + 1))), sets)


def some_turn(chance, world, books):
    user, slot = chance.randrange(3), chance.randrange(2)
    others = ("end", "end", "end", "back", "follow", "follow", "confirm", "stop", "cut", "ask", "ask")
    word = chance.choice(("do",) * 10 + others)
    if word == "do":
        return (word, user, some_statement(chance, world, books))
    if word == "ask":
        return (word, user, slot, some_question(chance, world, books))
    if word == "cut":
        return (word,)
    return (word, user if word in ("end", "back") else slot)


def some_story(chance, world, books, length):
    """A story of so many turns, often with all scripts ended behind them."""
    ends = [("end", user) for user in range(3)] if chance.randrange(3) else []
    return (*[some_turn(chance, world, books) for _ in range(length)], *ends)


def some_start(chance, world, books):
    """A store with some rows that can stand together."""
    store = Store(world, books.hiding.sight)
    for _ in range(chance.randrange(12)):
        try:
            store.load(chance.choice(world.tables), random_row(chance))
        except InvalidStore:
            pass
    return store


def largest_books():
    """A world and books with as much of everything as may be, of which each is right alone."""
    conditions = [("or", deep(5), ("equal", column, 0)) for column in range(3)]
    columns = [("p", 0), ("q", 1)]
    rules = [(f"{table}{name}", table, column, conditions[column]) for table in "abc" for name, column in columns]
    world = World(["a", "b", "c"], rules)
    kinds = zip("klmn", ("greatest", "sum", "count", "greatest"))
    books = Books(
        upserts=UpsertBook(("ap", "aq"), ("bp", "bq"), ("cp", "cq"), ("aq", "ap"), again=False, sees="all"),
        indexes=IndexBook(*[Index.of_rule(rule) for rule in world.rules]),
        locks=LockBook(read="road", write="row", marks="written", kept="none", asks="behind", clash="age"),
        hiding=HidingBook(*[(user, table, conditions[2]) for user in range(3) for table in "ab"], told="all"),
        looks=LookBook(("ap", 9), ("aq", 9), ("bp", 9), ("cq", 9), tells=True),
        summaries=SummaryBook(
            *[Summary(f"s{name}", "a", kind, 0, conditions[0]) for name, kind in kinds],
            edges=[("sk", "ap"), ("sn", "ap")],
            undo="image", greatest="question", alike="question",
        ),
        log=LogBook(when="begin", what="statement", kept="logged", cut="least"),
        copies=CopyBook(
            served=True, marks=("seen", "main"), promises=("own", "seen", "main"), hides=False, indexes="start",
            summaries="main",
        ),
    )
    return world, books
