import itertools
import unittest

from bookstogether.bookshelf import PARTS, Books
from bookstogether.conditions import only
from bookstogether.copybooks import CopyBook
from bookstogether.hidingbooks import HidingBook
from bookstogether.indexbooks import Index, IndexBook
from bookstogether.lockbooks import LockBook
from bookstogether.logbooks import LogBook
from bookstogether.lookbooks import LookBook
from bookstogether.meetings import meet_books
from bookstogether.roads import claim_gap
from bookstogether.summarybooks import Summary, SummaryBook
from bookstogether.upsertbooks import UpsertBook
from bookstogether.worlds import World

from tests.bookmaker import some_books, some_world
from tests.samples import ALWAYS, NEVER, ROWS, WORLD, chances, plain_group, plain_outcome, plain_shown

FIRST = ROWS[0]


class Plain:
    """The findings of all meetings, told by plain searches over all things, users, tables and rows."""

    def __init__(self, world, books):
        self.world = world
        self.books = books
        self.groups = {rule[0]: {row: plain_group(rule, row) for row in ROWS} for rule in world.rules}
        self.held = {
            one.name: {row: plain_outcome(one.condition, row) == "true" for row in ROWS}
            for one in books.indexes.indexes
        }
        self.shown = {
            (user, table): {row: plain_shown(books.hiding.rules, user, table, row) for row in ROWS}
            for user in range(3) for table in world.tables
        }
        self.counted = {one.name: {row: self.counts(one, row) for row in ROWS} for one in books.summaries.summaries}

    def counts(self, one, row):
        if plain_outcome(one.condition, row) != "true":
            return False
        if one.kind == "count":
            return True
        return row[one.column] is not None and not (one.kind == "sum" and row[one.column] == 0)

    def clash(self, rule, row, other):
        return self.groups[rule][row] is not None and self.groups[rule][row] == self.groups[rule][other]

    def findings(self, first, second):
        return tuple(getattr(self, f"{first}_{second}")())

    def first_of(self, found):
        return list(itertools.islice(found, 1))

    def hidden(self, word):
        return self.first_of(
            (word, user, table, row) for user in range(3) for table in self.world.tables for row in ROWS
            if not self.shown[user, table][row]
        )

    def upserts_indexes(self):
        for name, arbiter in self.books.upserts.arbiters:
            _, table, _, _ = [rule for rule in self.world.rules if rule[0] == name][0]
            for index in self.books.indexes.indexes:
                if index.name == arbiter and index.table == table:
                    gaps = (
                        ("arbiter", name, arbiter, row, other) for row in ROWS for other in ROWS
                        if self.finds(name, index, row, other) != self.clash(name, row, other)
                    )
                    yield from self.first_of(gaps)

    def finds(self, name, index, row, other):
        if self.groups[name][row] is None or not self.held[index.name][other] or other[index.column] is None:
            return False
        found = row[index.column] == other[index.column]
        return found and (not self.books.upserts.again or self.clash(name, row, other))

    def upserts_hiding(self):
        if self.books.upserts.sees != "all":
            return []
        return self.first_of(
            ("sees", user, name, row, other) for user in range(3) for name, table, _, _ in self.world.rules
            for row in ROWS for other in ROWS
            if self.shown[user, table][row] and not self.shown[user, table][other] and self.clash(name, row, other)
        )

    def indexes_locks(self):
        locks = self.books.locks
        if (locks.marks, locks.read, locks.write, self.books.indexes.writes) != ("written", "road", "row", "column"):
            return []
        return self.first_of(("marks", *pair) for pair in self.all_held())

    def all_held(self):
        return ((one.name, row) for one in self.books.indexes.indexes for row in ROWS if self.held[one.name][row])

    def all_counted(self, kinds=("count", "sum", "greatest")):
        return (
            (one.name, row) for one in self.books.summaries.summaries for row in ROWS
            if one.kind in kinds and self.counted[one.name][row]
        )

    def indexes_hiding(self):
        return self.first_of(
            ("holds", user, one.name, row, other) for one in self.books.indexes.indexes for user in range(3)
            for row in ROWS for other in ROWS
            if one.rule != "" and self.held[one.name][row] and self.held[one.name][other]
            and row[one.column] == other[one.column] is not None and row[one.column] is not None
            and self.shown[user, one.table][row] and not self.shown[user, one.table][other]
        )

    def indexes_looks(self):
        for name, most in self.books.looks.claims:
            for one in self.books.indexes.indexes:
                if one.name == name and self.books.looks.tells:
                    gap = claim_gap(self.world, one.table, one.column, one.condition, most)
                    if gap is not None:
                        yield ("claim", name, gap[0], tuple(gap[1]))

    def indexes_summaries(self):
        for name, edge in self.books.summaries.edges:
            one = [one for one in self.books.summaries.summaries if one.name == name][0]
            for index in self.books.indexes.indexes:
                fits = (index.name, index.table, index.column) == (edge, one.table, one.column)
                if fits and one.kind == "greatest":
                    yield from self.first_of(
                        ("edge", name, edge, row) for row in ROWS
                        if row[one.column] is not None and self.counted[name][row] != self.held[edge][row]
                    )

    def indexes_copies(self):
        copies = self.books.copies
        if not copies.served or copies.indexes != "start":
            return []
        return self.first_of(("start", *pair) for pair in self.all_held())

    def locks_looks(self):
        locks = self.books.locks
        waits = locks.clash == "wait" or (locks.clash == "age" and locks.write in ("table", "row"))
        return [("behind",)] if self.books.looks.tells and locks.asks == "behind" and waits else []

    def locks_summaries(self):
        locks = self.books.locks
        if locks.write != "row":
            return
        if locks.kept == "none" and locks.read in ("table", "road"):
            yield from self.first_of(("unkept", *pair) for pair in self.all_counted())
        if self.books.summaries.undo == "image":
            tables = {one.name: one.table for one in self.books.summaries.summaries}
            yield from self.first_of(
                ("image", name, row, other) for name, row in self.all_counted() for other in ROWS
                if self.counted[name][other] and not any(
                    self.clash(rule[0], row, other) for rule in self.world.rules if rule[1] == tables[name]
                )
            )

    def locks_log(self):
        return [("begin",)] if self.books.log.when == "begin" and self.books.locks.write != "store" else []

    def hiding_looks(self):
        return self.hidden("told") if self.books.looks.tells and self.books.hiding.told == "all" else []

    def hiding_summaries(self):
        if self.books.summaries.alike != "question":
            return []
        return self.first_of(
            ("alike", one.name, user, row)
            for one in self.books.summaries.summaries for user in range(3) for row in ROWS
            if self.counted[one.name][row] and not self.shown[user, one.table][row]
        )

    def hiding_log(self):
        if self.books.log.what != "statement":
            return []
        return self.first_of(
            ("unseen", user, table, row, other) for user in range(3) for table in self.world.tables
            for row in ROWS for other in ROWS if not self.shown[user, table][row] and self.shown[user, table][other]
        )

    def hiding_copies(self):
        return self.hidden("hides") if self.books.copies.served and not self.books.copies.hides else []

    def looks_summaries(self):
        lazy = self.books.looks.tells and self.books.summaries.greatest == "question"
        return self.first_of(("lazy", *pair) for pair in self.all_counted(("greatest",))) if lazy else []

    def summaries_log(self):
        twice = self.books.log.kept == "logged" and self.books.log.confirm == "behind"
        return self.first_of(("twice", *pair) for pair in self.all_counted(("count", "sum"))) if twice else []

    def summaries_copies(self):
        main = self.books.copies.served and self.books.copies.summaries == "main"
        return self.first_of(("main", *pair) for pair in self.all_counted()) if main else []

    def log_copies(self):
        if not self.books.copies.served:
            return []
        if self.books.log.when == "write":
            return [("midway",)]
        return [("again",)] if self.books.log.confirm == "behind" else []


PAIRS = list(itertools.combinations(PARTS, 2))
NAMED = [pair for pair in PAIRS if hasattr(Plain, f"{pair[0]}_{pair[1]}")]


class TestMeetings(unittest.TestCase):
    def met(self, first, second, **books):
        return meet_books(WORLD, Books(**books), first, second)

    def test_plain_books_meet_cleanly(self):
        for first, second in PAIRS:
            self.assertEqual(self.met(first, second), ())

    def test_compared_with_plain_searches(self):
        found = {}
        for chance in chances(220, "meetings"):
            world = some_world(chance)
            books = some_books(chance, world)
            plain = Plain(world, books)
            for first, second in PAIRS:
                told = meet_books(world, books, first, second)
                if (first, second) in NAMED:
                    self.assertEqual(told, plain.findings(first, second), books.lines())
                else:
                    self.assertEqual(told, ())
                for finding in told:
                    found[finding[0]] = found.get(finding[0], 0) + 1
        self.assertEqual(len(NAMED), 18)
        self.assertEqual(len(found), 20)

    def test_upserts_and_indexes(self):
        indexes = IndexBook(Index("i", "a", 1, ALWAYS), Index("p", "a", 0, ALWAYS), Index("j", "b", 0, ALWAYS))
        book = UpsertBook(("p", "i"), ("q", "p"), ("r", "j"))
        told = self.met("upserts", "indexes", upserts=book, indexes=indexes)
        self.assertEqual([finding[:3] for finding in told],
                         [("arbiter", "p", "i"), ("arbiter", "q", "p"), ("arbiter", "r", "j")])
        self.assertEqual(told[0][3:], ((0, None, None), (0, None, None)))
        self.assertEqual(self.met("upserts", "indexes", upserts=UpsertBook(("p", "p")), indexes=indexes), ())
        # An index of another table, and one that is not there.
        other = UpsertBook(("p", "j"), ("q", "zz"))
        self.assertEqual(self.met("upserts", "indexes", upserts=other, indexes=indexes), ())

    def test_upserts_and_hiding(self):
        hiding = HidingBook((2, "a", ("not", ("unknown", 1))))
        found = (("sees", 2, "p", (0, 0, None), (0, None, None)),)
        self.assertEqual(self.met("upserts", "hiding", upserts=UpsertBook(sees="all"), hiding=hiding), found)
        self.assertEqual(self.met("upserts", "hiding", hiding=hiding), ())
        self.assertEqual(self.met("upserts", "hiding", upserts=UpsertBook(sees="all")), ())

    def test_indexes_and_locks(self):
        indexes = [Index("i", "a", 0, NEVER), Index("j", "a", 0, ("equal", 0, 1))]
        options = {"read": "road", "write": "row", "marks": "written"}
        found = (("marks", "j", (1, None, None)),)
        book = IndexBook(*indexes, writes="column")
        self.assertEqual(self.met("indexes", "locks", indexes=book, locks=LockBook(**options)), found)
        for other in ({"read": "table"}, {"read": "rows"}, {"write": "table"}, {"marks": "holding"}):
            self.assertEqual(self.met("indexes", "locks", indexes=book, locks=LockBook(**{**options, **other})), ())
        for writes in ("both", "put"):
            book = IndexBook(*indexes, writes=writes)
            self.assertEqual(self.met("indexes", "locks", indexes=book, locks=LockBook(**options)), ())
        book = IndexBook(indexes[0], writes="column")
        self.assertEqual(self.met("indexes", "locks", indexes=book, locks=LockBook(**options)), ())

    def test_indexes_and_hiding(self):
        hiding = HidingBook((1, "a", ("equal", 1, 0)), (0, "a", ("equal", 1, 2)))
        first, second = Index("i", "a", 1, ALWAYS, "q"), Index("j", "a", 0, ALWAYS, "p")
        # Rows with the same value in column 1 are all shown or all hidden.
        self.assertEqual(self.met("indexes", "hiding", indexes=IndexBook(first), hiding=hiding), ())
        found = (("holds", 0, "j", (0, 2, None), (0, None, None)),)
        self.assertEqual(self.met("indexes", "hiding", indexes=IndexBook(first, second), hiding=hiding), found)
        third = Index("k", "a", 2, ALWAYS)
        self.assertEqual(self.met("indexes", "hiding", indexes=IndexBook(third), hiding=hiding), ())
        # An earlier index comes before an earlier user.
        fourth = Index("l", "b", 0, ALWAYS, "r")
        more = HidingBook(*hiding.rules, (2, "b", ("equal", 1, 0)))
        found = (("holds", 2, "l", (0, 0, None), (0, None, None)),)
        self.assertEqual(self.met("indexes", "hiding", indexes=IndexBook(fourth, second), hiding=more), found)

    def test_indexes_and_looks(self):
        indexes = IndexBook(Index("i", "a", 1, ALWAYS), Index("p", "a", 0, ALWAYS, "p"))
        looks = LookBook(("zz", 1), ("p", 1), ("i", 2), tells=True)
        told = self.met("indexes", "looks", indexes=indexes, looks=looks)
        # Under `p` only unknown values stand more than once.
        self.assertEqual([finding[:3] for finding in told], [("claim", "p", None), ("claim", "i", None)])
        self.assertEqual([len(finding[3]) for finding in told], [2, 3])
        self.assertIsInstance(told[0][3], tuple)
        self.assertEqual(self.met("indexes", "looks", indexes=indexes, looks=LookBook(("p", 1))), ())
        known = IndexBook(Index("p", "a", 0, ("not", ("unknown", 0)), "p"))
        self.assertEqual(self.met("indexes", "looks", indexes=known, looks=looks), ())

    def test_indexes_and_summaries(self):
        indexes = IndexBook(Index("i", "a", 0, ("equal", 1, 1)), Index("j", "b", 0, ALWAYS))
        top = Summary("top", "a", "greatest", 0, ALWAYS)
        found = (("edge", "top", "i", (0, None, None)),)
        self.assertEqual(self.met("indexes", "summaries", indexes=indexes,
                                  summaries=SummaryBook(top, edges=[("top", "i")])), found)
        same = Summary("top", "a", "greatest", 0, ("and", ("equal", 1, 1), ("not", ("unknown", 0))))
        for summary, index in ((top, "j"), (top, "zz"), (Summary("top", "a", "sum", 0, ALWAYS), "i"), (same, "i"),
                               (Summary("top", "a", "greatest", 1, ALWAYS), "i")):
            book = SummaryBook(summary, edges=[("top", index)])
            self.assertEqual(self.met("indexes", "summaries", indexes=indexes, summaries=book), ())
        low = Summary("low", "a", "greatest", 0, ("equal", 0, 2))
        book = SummaryBook(top, low, edges=[("low", "i"), ("top", "i")])
        found = (("edge", "low", "i", (0, 1, None)), ("edge", "top", "i", (0, None, None)))
        self.assertEqual(self.met("indexes", "summaries", indexes=indexes, summaries=book), found)

    def test_indexes_and_copies(self):
        indexes = IndexBook(Index("i", "a", 0, NEVER), Index("j", "a", 0, ("equal", 0, 1)))
        found = (("start", "j", (1, None, None)),)
        start = CopyBook(served=True, indexes="start")
        self.assertEqual(self.met("indexes", "copies", indexes=indexes, copies=start), found)
        for copies in (CopyBook(indexes="start"), CopyBook(served=True)):
            self.assertEqual(self.met("indexes", "copies", indexes=indexes, copies=copies), ())
        self.assertEqual(self.met("indexes", "copies", copies=start), ())

    def test_locks_and_looks(self):
        looks = LookBook(tells=True)
        for read, write, clash, told in (
            ("alone", "store", "wait", (("behind",),)), ("alone", "store", "age", ()),
            ("table", "row", "age", (("behind",),)),
            ("store", "table", "age", (("behind",),)), ("store", "store", "age", ()), ("table", "row", "back", ()),
            ("table", "row", "wait", (("behind",),)),
        ):
            options = {"read": read, "write": write, "clash": clash}
            self.assertEqual(self.met("locks", "looks", looks=looks, locks=LockBook(asks="behind", **options)), told)
            self.assertEqual(self.met("locks", "looks", looks=looks, locks=LockBook(**options)), ())
            self.assertEqual(self.met("locks", "looks", locks=LockBook(asks="behind", **options)), ())

    def test_locks_and_summaries(self):
        one = Summary("one", "a", "count", 0, ("equal", 0, 1))
        unkept = (("unkept", "one", (1, None, None)),)
        for read, write, kept, told in (
            ("table", "row", "none", unkept), ("road", "row", "none", unkept), ("rows", "row", "none", ()),
            ("store", "row", "none", ()), ("table", "table", "none", ()), ("table", "row", "node", ()),
        ):
            locks = LockBook(read=read, write=write, kept=kept)
            self.assertEqual(self.met("locks", "summaries", locks=locks, summaries=SummaryBook(one)), told)
        # All rows with 1 have the same group under the rule `p`.
        image = SummaryBook(one, Summary("two", "b", "sum", 0, ALWAYS), undo="image")
        locks = LockBook(read="table", write="row", kept="none")
        found = (*unkept, ("image", "two", (1, None, None), (1, None, None)))
        self.assertEqual(self.met("locks", "summaries", locks=locks, summaries=image), found)
        self.assertEqual(self.met("locks", "summaries", locks=LockBook(read="table", write="table"), summaries=image),
                         ())
        self.assertEqual(self.met("locks", "summaries", locks=LockBook(read="table", write="row"),
                                  summaries=SummaryBook(one, undo="image")), ())

    def test_an_image_of_two_rows(self):
        world = World(["a", "b"], [("p", "a", 0, ALWAYS)])
        summaries = SummaryBook(Summary("one", "a", "count", 0, ("not", ("unknown", 0))), undo="image")
        books = Books(locks=LockBook(read="table", write="row"), summaries=summaries)
        self.assertEqual(meet_books(world, books, "locks", "summaries"),
                         (("image", "one", (0, None, None), (1, None, None)),))

    def test_locks_and_log(self):
        for write, told in (("store", ()), ("table", (("begin",),)), ("row", (("begin",),))):
            locks = LockBook(read="table", write=write)
            self.assertEqual(self.met("locks", "log", locks=locks, log=LogBook(when="begin")), told)
            self.assertEqual(self.met("locks", "log", locks=locks, log=LogBook(when="write")), ())

    def test_hiding_and_looks_and_copies(self):
        rules = [(1, "b", ("unknown", 0)), (1, "a", ALWAYS), (2, "a", ("unknown", 2))]
        row = ("b", (0, None, None))
        looks = LookBook(tells=True)
        self.assertEqual(self.met("hiding", "looks", looks=looks, hiding=HidingBook(*rules, told="all")),
                         (("told", 1, *row),))
        self.assertEqual(self.met("hiding", "looks", looks=looks, hiding=HidingBook(*rules)), ())
        self.assertEqual(self.met("hiding", "looks", hiding=HidingBook(*rules, told="all")), ())
        self.assertEqual(self.met("hiding", "looks", looks=looks, hiding=HidingBook(rules[1], told="all")), ())
        hides = CopyBook(served=True, hides=False)
        self.assertEqual(self.met("hiding", "copies", hiding=HidingBook(*rules), copies=hides), (("hides", 1, *row),))
        self.assertEqual(self.met("hiding", "copies", hiding=HidingBook(*rules), copies=CopyBook(hides=False)), ())
        self.assertEqual(self.met("hiding", "copies", hiding=HidingBook(*rules), copies=CopyBook(served=True)), ())
        self.assertEqual(self.met("hiding", "copies", copies=hides), ())
        late, early = HidingBook(rules[2], (0, "b", NEVER)), (("hides", 0, "b", FIRST),)
        self.assertEqual(self.met("hiding", "copies", hiding=late, copies=hides), early)

    def test_hiding_and_summaries(self):
        summaries = [Summary("one", "a", "sum", 0, ALWAYS), Summary("two", "b", "count", 0, ALWAYS)]
        hiding = HidingBook((0, "b", ("equal", 0, 0)), (1, "a", ("equal", 1, 1)))
        found = (("alike", "one", 1, (1, None, None)),)
        self.assertEqual(self.met("hiding", "summaries", hiding=hiding,
                                  summaries=SummaryBook(*summaries, alike="question")), found)
        self.assertEqual(self.met("hiding", "summaries", hiding=hiding, summaries=SummaryBook(*summaries)), ())
        free = SummaryBook(Summary("one", "a", "greatest", 0, ("unknown", 0)), alike="question")
        self.assertEqual(self.met("hiding", "summaries", hiding=hiding, summaries=free), ())

    def test_hiding_and_log(self):
        log = LogBook(what="statement")
        hiding = HidingBook((1, "b", ("equal", 0, 1)), (1, "a", NEVER), (2, "a", ALWAYS))
        # All rows of table `a` are hidden from user 1, and none from user 2.
        found = (("unseen", 1, "b", FIRST, (1, None, None)),)
        self.assertEqual(self.met("hiding", "log", hiding=hiding, log=log), found)
        self.assertEqual(self.met("hiding", "log", hiding=hiding), ())
        # One row is enough on each side.
        one = only((0, 1, 2))
        shown, hidden = HidingBook((0, "a", one)), HidingBook((0, "a", ("not", one)))
        self.assertEqual(self.met("hiding", "log", hiding=shown, log=log), (("unseen", 0, "a", FIRST, (0, 1, 2)),))
        self.assertEqual(self.met("hiding", "log", hiding=hidden, log=log)[0][:3], ("unseen", 0, "a"))
        self.assertEqual(self.met("hiding", "log", hiding=HidingBook(*hiding.rules[1:]), log=log), ())

    def test_looks_and_summaries(self):
        summaries = [Summary("one", "a", "sum", 0, ALWAYS), Summary("top", "b", "greatest", 1, ALWAYS)]
        lazy = SummaryBook(*summaries, greatest="question")
        told = LookBook(tells=True)
        self.assertEqual(self.met("looks", "summaries", looks=told, summaries=lazy),
                         (("lazy", "top", (None, 0, None)),))
        self.assertEqual(self.met("looks", "summaries", summaries=lazy), ())
        self.assertEqual(self.met("looks", "summaries", looks=told, summaries=SummaryBook(*summaries)), ())
        self.assertEqual(self.met("looks", "summaries", looks=told,
                                  summaries=SummaryBook(summaries[0], greatest="question")), ())

    def test_summaries_and_log(self):
        summaries = SummaryBook(Summary("top", "b", "greatest", 1, ALWAYS), Summary("one", "a", "sum", 0, ALWAYS))
        found = (("twice", "one", (1, None, None)),)
        self.assertEqual(self.met("summaries", "log", summaries=summaries,
                                  log=LogBook(kept="logged", confirm="behind")), found)
        for log in (LogBook(kept="logged"), LogBook(confirm="behind"), LogBook(kept="logged", confirm="ahead")):
            self.assertEqual(self.met("summaries", "log", summaries=summaries, log=log), ())

    def test_summaries_and_copies(self):
        summaries = SummaryBook(Summary("none", "a", "count", 0, NEVER), Summary("top", "b", "greatest", 1, ALWAYS))
        found = (("main", "top", (None, 0, None)),)
        self.assertEqual(self.met("summaries", "copies", summaries=summaries,
                                  copies=CopyBook(served=True, summaries="main")), found)
        for copies in (CopyBook(served=True), CopyBook(summaries="main")):
            self.assertEqual(self.met("summaries", "copies", summaries=summaries, copies=copies), ())

    def test_log_and_copies(self):
        served = CopyBook(served=True)
        for when in LogBook.WHEN:
            for confirm in LogBook.CONFIRM:
                told = (("midway",),) if when == "write" else (("again",),) if confirm == "behind" else ()
                log = LogBook(when=when, confirm=confirm)
                self.assertEqual(self.met("log", "copies", log=log, copies=served), told)
                self.assertEqual(self.met("log", "copies", log=log), ())

    def test_books_that_are_wrong_alone_meet_all_the_same(self):
        hiding = HidingBook((1, "a", ("unknown", 0)), first="ask", told="all")
        self.assertEqual(len(self.met("hiding", "looks", hiding=hiding, looks=LookBook(tells=True, counts="found"))), 1)
