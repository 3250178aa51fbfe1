import unittest

from bookstogether.bookshelf import Books
from bookstogether.heaps import Heap
from bookstogether.hidingbooks import HidingBook
from bookstogether.indexbooks import Index, IndexBook
from bookstogether.lockbooks import LockBook
from bookstogether.lockdeeds import statement_deeds
from bookstogether.lockmeets import deed_needs
from bookstogether.needing import statement_needs
from bookstogether.shelves import shelf_of
from bookstogether.summarybooks import Summary, SummaryBook
from bookstogether.upsertbooks import UpsertBook
from bookstogether.worlds import World

from tests.bookmaker import some_locks, some_world
from tests.samples import ALWAYS, chances, random_heap, random_statement

RULED = World(["a", "b"], [("p", "a", 0, ALWAYS), ("q", "a", 1, ALWAYS)])
TABLE = ("table",)
STORE = ("store",)
A = ("table", "a")
DIVIDING = ("quotient", 1, 0, 1)
ROWS = LockBook(read="rows", write="row")


def row(number):
    return ("row", number)


def key(rule, value):
    return ("key", rule, value)


def shelf(*rows, world=RULED, locks=ROWS, **books):
    heap = Heap()
    for one in rows:
        heap.put("a", one)
    return shelf_of(world, Books(locks=locks, **books), heap)


def needs(made, statement, road=TABLE, user=0):
    before = (made.heap.pairs("a"), made.heap.fresh, dict(made.entries.lists), dict(made.totals.amounts))
    found = statement_needs(made, user, statement, road)
    # Nothing is changed by asking for the needs.
    assert before == (made.heap.pairs("a"), made.heap.fresh, dict(made.entries.lists), dict(made.totals.amounts))
    return found


class TestReading(unittest.TestCase):
    ROWS = [(2, 0, 0), (1, 1, 1), (0, 2, 2)]

    def test_by_the_table(self):
        made = shelf(*self.ROWS)
        told = needs(made, ("count", "a", ("not", ("equal", 0, 1)), ""))
        self.assertEqual(told, [(STORE, "is"), (A, "is"), (row(0), "s"), (row(2), "s")])
        made = shelf(*self.ROWS, locks=LockBook(read="road"))
        self.assertEqual(needs(made, ("count", "a", ALWAYS, "")), [(STORE, "is"), (A, "s")])
        self.assertEqual(needs(shelf(locks=LockBook()), ("count", "a", ALWAYS, "")), [(STORE, "x")])

    def test_by_an_index(self):
        indexes = IndexBook(Index("i", "a", 0, ALWAYS))
        road = ("index", "i", (0, 2))
        question = ("count", "a", ("not", ("equal", 0, 1)), "i")
        made = shelf(*self.ROWS, indexes=indexes)
        # The found rows stand in the order of the entries.
        told = [(STORE, "is"), (A, "is"), (("index", "i"), "is"), (row(2), "s"), (row(0), "s")]
        self.assertEqual(needs(made, question, road), told)
        made = shelf(*self.ROWS, indexes=indexes, locks=LockBook(read="road"))
        self.assertEqual(needs(made, question, road), [(STORE, "is"), (A, "is"), (("index", "i"), "s")])

    def test_only_found_rows(self):
        indexes = IndexBook(Index("i", "a", 0, ALWAYS))
        made = shelf(*self.ROWS, indexes=indexes, hiding=HidingBook((1, "a", ("equal", 1, 2))))
        question, road = ("count", "a", ("not", ("equal", 0, 1)), "i"), ("index", "i", (0, 2))
        self.assertEqual(needs(made, question, road, user=1)[3:], [(row(2), "s")])
        self.assertEqual(needs(made, question, TABLE, user=1)[2:], [(row(2), "s")])

    def test_a_refused_question_finds_none(self):
        made = shelf(*self.ROWS)
        self.assertEqual(needs(made, ("count", "a", DIVIDING, "")), [(STORE, "is"), (A, "is")])
        hiding = HidingBook((1, "a", ("not", ("equal", 0, 0))))
        made = shelf((0, 2, 2), (1, 1, 1), hiding=hiding)
        self.assertEqual(needs(made, ("count", "a", DIVIDING, ""), user=1), [(STORE, "is"), (A, "is"), (row(1), "s")])
        made = shelf((0, 2, 2), (1, 1, 1), hiding=HidingBook(*hiding.rules, first="ask"))
        self.assertEqual(needs(made, ("count", "a", DIVIDING, ""), user=1), [(STORE, "is"), (A, "is")])

    def test_by_a_summary(self):
        summaries = SummaryBook(Summary("s", "a", "count", 0, ALWAYS))
        question = ("count", "a", ALWAYS, "s")
        made = shelf(*self.ROWS, summaries=summaries)
        self.assertEqual(needs(made, question, ("summary", "s")), [(STORE, "is"), (A, "is"), (("summary", "s"), "s")])
        made = shelf(*self.ROWS, summaries=summaries, locks=LockBook(read="rows", kept="none"))
        self.assertEqual(needs(made, question, ("summary", "s")), [(STORE, "is"), (A, "is")])


class TestWriting(unittest.TestCase):
    def test_a_put(self):
        made = shelf((0, 0, 0))
        told = [(STORE, "ix"), (A, "ix"), (row(1), "x"), (key("p", 1), "x"), (key("q", 2), "x")]
        self.assertEqual(needs(made, ("put", "a", (1, 2, 0))), told)
        self.assertEqual(needs(made, ("put", "a", (None, 2, 0))), told[:3] + told[4:])
        self.assertEqual(needs(made, ("put", "b", (1, 2, 0))), [(STORE, "ix"), (("table", "b"), "ix"), (row(1), "x")])
        self.assertEqual(needs(shelf(locks=LockBook()), ("put", "a", (1, 2, 0))), [(STORE, "x")])
        made = shelf(locks=LockBook(read="table", write="table"))
        self.assertEqual(needs(made, ("put", "a", (1, 2, 0))), [(STORE, "ix"), (A, "x")])

    def test_a_refused_put_needs_the_same(self):
        hiding = HidingBook((1, "a", ("unknown", 0)))
        told = [(STORE, "ix"), (A, "ix"), (row(1), "x"), (key("p", 0), "x"), (key("q", 0), "x")]
        self.assertEqual(needs(shelf((0, 0, 0)), ("put", "a", (0, 0, 0))), told)
        self.assertEqual(needs(shelf((0, 0, 0), hiding=hiding), ("put", "a", (0, 0, 0)), user=1), told)

    def test_the_fresh_number(self):
        made = shelf()
        made.heap[10 ** 20] = ("a", (0, 0, 0))
        self.assertEqual(needs(made, ("put", "a", (None, None, 0)))[2], (row(10 ** 20 + 1), "x"))

    def test_a_change(self):
        made = shelf((1, 1, 0), (0, 0, 0))
        reading = [(STORE, "is"), (A, "is"), (row(0), "s"), (row(1), "s")]
        first = [(STORE, "ix"), (A, "ix"), (row(0), "x")]
        second = [(STORE, "ix"), (A, "ix"), (row(1), "x")]
        told = needs(made, ("change", "a", ALWAYS, 0, 2))
        keys = [(key("p", 1), "x"), (key("p", 2), "x"), (key("q", 1), "x"), (key("q", 1), "x")]
        more = [(key("p", 0), "x"), (key("p", 2), "x"), (key("q", 0), "x"), (key("q", 0), "x")]
        self.assertEqual(told, reading + first + keys + second + more)
        unknown = needs(made, ("change", "a", ("equal", 0, 1), 0, None))
        self.assertEqual(unknown[5:], [(row(0), "x"), (key("p", 1), "x"), (key("q", 1), "x"), (key("q", 1), "x")])

    def test_a_remove(self):
        made = shelf((1, None, 0), (0, 0, 0))
        told = needs(made, ("remove", "a", ("equal", 0, 1)))
        self.assertEqual(told, [(STORE, "is"), (A, "is"), (row(0), "s"), (STORE, "ix"), (A, "ix"), (row(0), "x"),
                                (key("p", 1), "x")])

    def test_a_refused_change_writes_nothing(self):
        made = shelf((0, 0, 0), (1, 1, 1))
        for statement in (("change", "a", DIVIDING, 0, 2), ("remove", "a", DIVIDING)):
            self.assertEqual(needs(made, statement), [(STORE, "is"), (A, "is")])
        # What is refused later needs all that it would write.
        self.assertEqual(len([need for need in needs(made, ("change", "a", ALWAYS, 0, 2)) if need[0][0] == "row"]), 4)

    def test_hidden_rows_are_not_found(self):
        made = shelf((1, 1, 0), (0, 0, 0), hiding=HidingBook((1, "a", ("equal", 0, 0))))
        told = needs(made, ("remove", "a", ALWAYS), user=1)
        self.assertEqual([node for node, _ in told if node[0] == "row"], [row(1), row(1)])


class TestMarks(unittest.TestCase):
    INDEXES = (
        Index("p", "a", 0, ALWAYS, "p"), Index("q", "a", 1, ALWAYS, "q"), Index("other", "b", 0, ALWAYS),
        Index("one", "a", 2, ("equal", 2, 1)), Index("two", "a", 0, ("equal", 2, 2)),
    )

    def marked(self, statement, marks="holding", writes="both", rows=((0, 0, 1),)):
        made = shelf(*rows, indexes=IndexBook(*self.INDEXES, writes=writes),
                     locks=LockBook(read="rows", write="row", marks=marks, checks="none"))
        return [node[1] for node, mode in needs(made, statement) if node[0] == "index" and mode == "ix"]

    def test_indexes_that_hold_the_old_or_the_new_row(self):
        self.assertEqual(self.marked(("put", "a", (1, 1, 2))), ["p", "q", "two"])
        self.assertEqual(self.marked(("remove", "a", ALWAYS)), ["p", "q", "one"])
        self.assertEqual(self.marked(("change", "a", ALWAYS, 2, 2)), ["p", "q", "one", "two"])
        self.assertEqual(self.marked(("change", "a", ALWAYS, 2, 1)), ["p", "q", "one"])

    def test_indexes_that_the_writing_touches(self):
        change, same = ("change", "a", ALWAYS, 2, 2), ("change", "a", ALWAYS, 2, 1)
        for writes, told in (("both", ["p", "q", "one", "two"]), ("column", ["one"]), ("put", [])):
            self.assertEqual(self.marked(change, "written", writes), told)
            self.assertEqual(self.marked(change, "holding", writes), ["p", "q", "one", "two"])
        self.assertEqual(self.marked(same, "written", "column"), [])
        self.assertEqual(self.marked(same, "written", "both"), ["p", "q", "one"])
        for writes in ("both", "column", "put"):
            self.assertEqual(self.marked(("put", "a", (1, 1, 2)), "written", writes), ["p", "q", "two"])

    def test_the_order(self):
        summaries = SummaryBook(
            Summary("many", "a", "count", 0, ("equal", 0, 1)), Summary("top", "a", "greatest", 0, ALWAYS),
            Summary("else", "b", "count", 0, ALWAYS), Summary("all", "a", "sum", 2, ALWAYS),
        )
        made = shelf((0, 0, 0), indexes=IndexBook(*self.INDEXES), summaries=summaries)
        told = needs(made, ("put", "a", (1, 1, 2)))
        self.assertEqual(told, [
            (STORE, "ix"), (A, "ix"), (("index", "p"), "ix"), (("index", "q"), "ix"), (("index", "two"), "ix"),
            (("summary", "many"), "ix"), (("summary", "top"), "ix"), (("summary", "all"), "ix"), (row(1), "x"),
            (key("p", 1), "x"), (key("q", 1), "x"),
        ])
        told = needs(made, ("change", "a", ALWAYS, 0, 2))
        self.assertEqual([node for node, _ in told if node[0] == "summary"], [("summary", "top")])


class TestUpserts(unittest.TestCase):
    READING = [(STORE, "is"), (A, "is")]
    WRITING = [(STORE, "ix"), (A, "ix")]

    def test_one_row_is_found(self):
        made = shelf((2, 2, 2), (0, 1, 0))
        told = needs(made, ("upsert", "a", (0, 0, 2), ("q", "p"), ((1, "new"),)))
        keys = [(key("p", 0), "x"), (key("p", 0), "x"), (key("q", 1), "x"), (key("q", 0), "x")]
        self.assertEqual(told, self.READING + self.READING + [(row(1), "s")] + self.WRITING + [(row(1), "x")] + keys)

    def test_a_row_that_stays_equal_is_written_too(self):
        made = shelf((0, 1, 0))
        keys = [(key("p", 0), "x")] * 2 + [(key("q", 1), "x")] * 2
        told = needs(made, ("upsert", "a", (0, 0, 2), ("p",), ()))
        self.assertEqual(told, self.READING + [(row(0), "s")] + self.WRITING + [(row(0), "x")] + keys)

    def test_no_row_is_found(self):
        made = shelf((0, 1, 0))
        fresh = self.WRITING + [(row(1), "x"), (key("p", 1), "x"), (key("q", 0), "x")]
        self.assertEqual(needs(made, ("upsert", "a", (1, 0, 2), ("p", "q"), ())), self.READING * 2 + fresh)
        self.assertEqual(needs(made, ("upsert", "a", (1, 0, 2), (), ())), fresh)

    def test_several_rows_are_found(self):
        made = shelf((0, 1, 0), (1, 0, 0))
        told = needs(made, ("upsert", "a", (0, 0, 2), ("p", "q"), ()))
        self.assertEqual(told, self.READING + [(row(0), "s")] + self.READING + [(row(1), "s")])

    def test_one_row_found_by_two_rules(self):
        made = shelf((0, 1, 0))
        told = needs(made, ("upsert", "a", (0, 1, 2), ("p", "q"), ()))
        self.assertEqual(told[:6], (self.READING + [(row(0), "s")]) * 2)
        self.assertEqual(len(told), 6 + 3 + 4)

    def test_by_an_arbiter(self):
        indexes = IndexBook(Index("p", "a", 0, ALWAYS, "p"), Index("q", "a", 1, ALWAYS, "q"))
        book = UpsertBook(("p", "p"), ("q", "zz"))
        made = shelf((0, 1, 0), (2, 2, 2), indexes=indexes, upserts=book)
        reading = [(STORE, "is"), (A, "is"), (("index", "p"), "is")]
        told = needs(made, ("upsert", "a", (0, 0, 2), ("p", "q"), ()))
        self.assertEqual(told[:7], reading + [(row(0), "s")] + self.READING + [(STORE, "ix")])
        # Nothing is looked up for an unknown value, but the index is read.
        told = needs(made, ("upsert", "a", (None, 0, 2), ("p",), ()))
        self.assertEqual(told[:4], reading + [(STORE, "ix")])
        locks = LockBook(read="road", write="row")
        made = shelf((0, 1, 0), indexes=indexes, upserts=book, locks=locks)
        told = needs(made, ("upsert", "a", (0, 0, 2), ("p", "q"), ()))
        self.assertEqual(told[:5], [(STORE, "is"), (A, "is"), (("index", "p"), "s"), (STORE, "is"), (A, "s")])

    def test_found_rows_without_a_clash(self):
        indexes = IndexBook(Index("p", "a", 0, ALWAYS, "p"), Index("q", "a", 1, ALWAYS, "q"),
                            Index("i", "a", 2, ALWAYS))
        for again, number in ((True, 1), (False, 0)):
            made = shelf((0, 1, 0), indexes=indexes, upserts=UpsertBook(("p", "i"), again=again))
            told = needs(made, ("upsert", "a", (1, 0, 0), ("p",), ()))
            self.assertEqual([node for node, mode in told if node[0] == "row" and mode == "x"], [row(number)])

    def test_hidden_rows(self):
        hiding = HidingBook((1, "a", ("equal", 0, 2)))
        statement = ("upsert", "a", (0, 0, 2), ("p",), ())
        for sees, number in (("shown", 1), ("all", 0)):
            made = shelf((0, 1, 0), hiding=hiding, upserts=UpsertBook(sees=sees))
            # The asked row is hidden from the user: the upsert will be refused, but its needs are these.
            told = needs(made, statement, user=1)
            self.assertEqual([node for node, mode in told if node[0] == "row" and mode == "x"], [row(number)])


class TestPlainBooks(unittest.TestCase):
    def test_they_need_what_the_deeds_need(self):
        words = {}
        for chance in chances(150, "needing"):
            world = some_world(chance)
            locks = some_locks(chance)
            heap = random_heap(chance, chance.randrange(8))
            made = shelf_of(world, Books(locks=locks), heap)
            for _ in range(6):
                statement = random_statement(chance, world)
                deeds = statement_deeds(world, heap, statement)
                wanted = [need for deed in deeds for need in deed_needs(locks, deed)]
                self.assertEqual(statement_needs(made, chance.randrange(3), statement, TABLE), wanted)
                words[statement[0]] = True
        self.assertEqual(len(words), 5)
