import unittest

from bookstogether.bookshelf import Books
from bookstogether.entries import Entries, due_entries
from bookstogether.errors import ZeroDivisor
from bookstogether.heaps import Heap
from bookstogether.hidingbooks import HidingBook
from bookstogether.indexbooks import Index, IndexBook
from bookstogether.lookbooks import LookBook
from bookstogether.running import run_plainly
from bookstogether.shelves import Shelf, shelf_of
from bookstogether.summarybooks import Summary, SummaryBook
from bookstogether.totals import Totals

from tests.bookmaker import some_books, some_question, some_start, some_world
from tests.samples import ALWAYS, NEVER, WORLD, chances

LOW = ("below", 0, 2)
DIVIDING = ("quotient", 1, 0, 1)
TABLE = ("table",)


def indexes(**options):
    return IndexBook(
        Index("p", "a", 0, ALWAYS, "p"), Index("q", "a", 1, ("equal", 2, 1), "q"),
        Index("r", "b", 2, ("not", ("unknown", 0)), "r"), Index("low", "a", 0, LOW), Index("other", "b", 0, ALWAYS),
        **options,
    )


def summaries(**options):
    return SummaryBook(
        Summary("many", "a", "count", 0, LOW), Summary("top", "a", "greatest", 1, ALWAYS),
        Summary("all", "b", "sum", 2, ALWAYS), **options,
    )


def shelf(*rows, **books):
    """A shelf with these rows of table a."""
    heap = Heap()
    for row in rows:
        heap.put("a", row)
    return shelf_of(WORLD, Books(**books), heap)


class TestShelf(unittest.TestCase):
    def test_fields(self):
        heap, books = Heap(), Books()
        entries, totals = Entries(books.indexes), Totals(books.summaries, heap)
        made = Shelf(WORLD, books, heap, entries, totals)
        for name, thing in (("world", WORLD), ("books", books), ("heap", heap), ("entries", entries),
                            ("totals", totals)):
            self.assertIs(getattr(made, name), thing)

    def test_shelf_of(self):
        heap = Heap()
        heap.put("a", (1, 2, 1))
        heap.put("b", (1, 0, 2))
        books = Books(indexes=indexes(), summaries=summaries())
        made = shelf_of(WORLD, books, heap)
        self.assertIs(made.heap, heap)
        self.assertIs(made.books, books)
        self.assertEqual([made.entries.listed(name) for name in ("p", "q", "r", "low", "other")],
                         [[(1, 0)], [(2, 0)], [(2, 1)], [(1, 0)], [(1, 1)]])
        self.assertEqual([made.totals.saved(name) for name in ("many", "top", "all")],
                         [(1, False), (2, False), (2, False)])

    def test_write(self):
        made = shelf((1, 2, 1), indexes=indexes(), summaries=summaries())
        self.assertIsNone(made.write("a", 0, (1, 2, 1), (2, 2, 0)))
        self.assertEqual(made.heap.pairs("a"), [(0, (2, 2, 0))])
        self.assertEqual([made.entries.listed(name) for name in ("p", "q", "low")], [[(2, 0)], [], []])
        self.assertEqual([made.totals.current(name) for name in ("many", "top")], [0, 2])
        made.write("a", 5, None, (0, 0, 0))
        self.assertEqual((made.heap.fresh, made.totals.current("many")), (6, 1))
        made.write("a", 0, (2, 2, 0), None)
        self.assertEqual((made.heap.numbers("a"), made.totals.current("top")), ([5], 0))

    def test_write_without_the_totals(self):
        made = shelf((1, 2, 1), indexes=indexes(), summaries=summaries())
        made.write("a", 0, (1, 2, 1), (2, 0, 0), kept=False)
        self.assertEqual((made.heap.bag("a"), made.entries.listed("p")), ([(2, 0, 0)], [(2, 0)]))
        self.assertEqual([made.totals.saved(name) for name in ("many", "top")], [(1, False), (2, False)])

    def test_totals_see_the_heap_behind_the_write(self):
        made = shelf((1, 2, 1), (2, 1, 2), summaries=summaries())
        made.write("a", 0, (1, 2, 1), None)
        self.assertEqual(made.totals.saved("top"), (1, False))

    def test_entries_are_written_as_their_book_says(self):
        made = shelf((1, 2, 1), indexes=indexes(writes="put"))
        made.write("a", 0, (1, 2, 1), (2, 2, 1))
        self.assertEqual(made.entries.listed("p"), [(1, 0)])


class TestRoad(unittest.TestCase):
    def road(self, question, user=0, **books):
        chosen = {"indexes": indexes(), "summaries": summaries(), **books}
        return shelf(**chosen).road(user, question)

    def test_by_no_name_and_by_an_unknown_one(self):
        for by in ("", "zz"):
            self.assertEqual(self.road(("count", "a", LOW, by)), TABLE)

    def test_statements_that_are_no_questions(self):
        for statement in (("put", "a", (0, 0, 0)), ("remove", "a", LOW), ("change", "a", LOW, 0, 0),
                          ("upsert", "a", (0, 0, 0), ("p",), ())):
            self.assertEqual(self.road(statement), TABLE)

    def test_by_a_summary(self):
        self.assertEqual(self.road(("count", "a", LOW, "many")), ("summary", "many"))
        self.assertEqual(self.road(("greatest", "a", ALWAYS, 1, "top")), ("summary", "top"))
        self.assertEqual(self.road(("sum", "b", ALWAYS, 2, "all")), ("summary", "all"))

    def test_by_a_summary_that_does_not_serve(self):
        for question in (("count", "a", ALWAYS, "many"), ("rows", "a", LOW, "many"), ("count", "b", LOW, "many"),
                         ("greatest", "a", ALWAYS, 0, "top"), ("sum", "a", ALWAYS, 2, "all")):
            self.assertEqual(self.road(question), TABLE)

    def test_what_is_hidden_decides_whether_a_summary_serves(self):
        hiding = HidingBook((1, "a", ("equal", 0, 1)))
        self.assertEqual(self.road(("count", "a", LOW, "many"), hiding=hiding), ("summary", "many"))
        self.assertEqual(self.road(("count", "a", LOW, "many"), user=1, hiding=hiding), TABLE)
        alike = summaries(alike="question")
        self.assertEqual(self.road(("count", "a", LOW, "many"), 1, hiding=hiding, summaries=alike), ("summary", "many"))

    def test_by_an_index(self):
        self.assertEqual(self.road(("rows", "a", ("equal", 0, 1), "low")), ("index", "low", (1,)))
        self.assertEqual(self.road(("sum", "a", LOW, 2, "low")), ("index", "low", (0, 1)))
        self.assertEqual(self.road(("count", "a", ALWAYS, "p")), ("index", "p", (None, 0, 1, 2)))
        self.assertEqual(self.road(("count", "a", NEVER, "low")), ("index", "low", ()))

    def test_by_an_index_that_does_not_serve(self):
        self.assertEqual(self.road(("rows", "a", ALWAYS, "low")), TABLE)
        self.assertEqual(self.road(("rows", "a", DIVIDING, "low")), TABLE)
        # A row with an unknown value is held by no index whose condition compares this value.
        possible = indexes(serves="possible")
        unknown = ("rows", "a", ("unknown", 0), "low")
        self.assertEqual((self.road(unknown), self.road(unknown, indexes=possible)), (TABLE, ("index", "low", (None,))))

    def test_by_an_index_of_another_table(self):
        self.assertEqual(self.road(("rows", "a", ALWAYS, "other")), TABLE)
        self.assertEqual(self.road(("rows", "b", ("equal", 0, 2), "other")), ("index", "other", (2,)))

    def test_a_name_that_is_both(self):
        both = SummaryBook(Summary("low", "a", "count", 0, LOW))
        self.assertEqual(self.road(("count", "a", LOW, "low"), summaries=both), ("summary", "low"))
        # Where the summary does not serve, the index may.
        self.assertEqual(self.road(("rows", "a", LOW, "low"), summaries=both), ("index", "low", (0, 1)))
        self.assertEqual(self.road(("count", "a", ALWAYS, "low"), summaries=both), TABLE)


class TestAsk(unittest.TestCase):
    ROWS = [(1, 0, 0), (0, 1, 0), (None, 2, 0), (2, None, 2), (1, 1, 2)]

    def ask(self, question, road=TABLE, user=0, rows=ROWS, **books):
        return shelf(*rows, **{"indexes": indexes(), "looks": LookBook(tells=True), **books}).ask(user, question, road)

    def test_by_the_table(self):
        self.assertEqual(self.ask(("rows", "a", LOW, "")), (("rows", ((0, 1, 0), (1, 0, 0), (1, 1, 2))), 5))
        self.assertEqual(self.ask(("sum", "a", LOW, 2, "")), (("sum", 2), 5))
        self.assertEqual(self.ask(("greatest", "a", NEVER, 2, "")), (("greatest", None), 5))
        self.assertEqual(self.ask(("count", "b", ALWAYS, "")), (("count", 0), 0))

    def test_by_an_index(self):
        self.assertEqual(self.ask(("count", "a", ("equal", 0, 1), "low"), ("index", "low", (1,))), (("count", 2), 2))
        both = ("and", ("equal", 0, 1), ("equal", 1, 1))
        self.assertEqual(self.ask(("count", "a", both, "low"), ("index", "low", (1,))), (("count", 1), 2))
        self.assertEqual(self.ask(("count", "a", NEVER, "low"), ("index", "low", ())), (("count", 0), 0))

    def test_looks_that_are_told_and_that_are_not(self):
        question, road = ("count", "a", ("and", ("equal", 0, 1), ("equal", 1, 1)), "low"), ("index", "low", (1,))
        self.assertEqual(self.ask(question, road, looks=LookBook()), (("count", 1), None))
        self.assertEqual(self.ask(question, road, looks=LookBook(tells=True, counts="found")), (("count", 1), 1))

    def test_hidden_rows(self):
        hiding = HidingBook((1, "a", ("not", ("equal", 0, 1))))
        # Rows with 1 are hidden, and so is the one whose value is unknown.
        question = ("count", "a", ALWAYS, "p")
        for road in (TABLE, ("index", "p", (None, 0, 1, 2))):
            self.assertEqual(self.ask(question, road, user=1, hiding=hiding), (("count", 2), 2))
            self.assertEqual(self.ask(question, road, user=0, hiding=hiding), (("count", 5), 5))
        told = HidingBook(*hiding.rules, told="all")
        self.assertEqual(self.ask(question, user=1, hiding=told), (("count", 2), 5))

    def test_a_refused_question(self):
        question = ("count", "a", DIVIDING, "")
        with self.assertRaises(ZeroDivisor):
            self.ask(question)
        self.assertEqual(self.ask(question, rows=self.ROWS[:1]), (("count", 0), 1))
        # The row that would divide by 0 is hidden.
        hide = HidingBook((1, "a", ("not", ("equal", 0, 0))))
        self.assertEqual(self.ask(question, user=1, hiding=hide), (("count", 1), 3))
        ask = HidingBook(*hide.rules, first="ask")
        with self.assertRaises(ZeroDivisor):
            self.ask(question, user=1, hiding=ask)

    def test_entries_that_are_not_due(self):
        made = shelf((1, 1, 1), (1, 2, 2), indexes=indexes(), looks=LookBook(tells=True))
        made.heap.write("a", 0, None)
        # The entry with the number 0 has no row any more, and is no candidate.
        self.assertEqual(made.ask(0, ("count", "a", ("equal", 0, 1), "p"), ("index", "p", (1,))), (("count", 1), 1))
        made.heap.write("a", 0, (2, 2, 2))
        self.assertEqual(made.ask(0, ("count", "a", ("equal", 0, 1), "p"), ("index", "p", (1,))), (("count", 1), 2))


class TestAskSummaries(unittest.TestCase):
    TOP = ("greatest", "a", ALWAYS, 1, "top")

    def test_kept_values(self):
        made = shelf((1, 2, 0), (2, 1, 0), summaries=summaries(), looks=LookBook(tells=True))
        self.assertEqual(made.ask(0, ("count", "a", LOW, "many"), ("summary", "many")), (("count", 1), 0))
        self.assertEqual(made.ask(0, self.TOP, ("summary", "top")), (("greatest", 2), 0))
        made.totals.restore("many", (7, False))
        self.assertEqual(made.ask(0, ("count", "a", LOW, "many"), ("summary", "many")), (("count", 7), 0))

    def test_looks_that_are_not_told(self):
        made = shelf((1, 2, 0), summaries=summaries())
        self.assertEqual(made.ask(0, self.TOP, ("summary", "top")), (("greatest", 2), None))

    def test_an_open_value_is_settled_once(self):
        for counts in ("looked", "found"):
            made = shelf((1, 2, 0), (2, 1, 0), (0, 0, 0), summaries=summaries(greatest="question"),
                         looks=LookBook(tells=True, counts=counts), hiding=HidingBook((0, "a", ("equal", 0, 2))))
            made.heap.put("b", (0, 0, 0))
            made.write("a", 0, (1, 2, 0), None)
            self.assertEqual(made.totals.saved("top"), (2, True))
            # Hidden rows are looked at too, those of other tables are not.
            self.assertEqual(made.ask(0, self.TOP, ("summary", "top")), (("greatest", 1), 2))
            self.assertEqual(made.totals.saved("top"), (1, False))
            self.assertEqual(made.ask(0, self.TOP, ("summary", "top")), (("greatest", 1), 0))

    def test_an_open_value_of_a_table_without_rows(self):
        made = shelf((1, 2, 0), summaries=summaries(greatest="question"), looks=LookBook(tells=True))
        made.write("a", 0, (1, 2, 0), None)
        self.assertEqual(made.ask(0, self.TOP, ("summary", "top")), (("greatest", None), 0))
        self.assertFalse(made.totals.is_open("top"))

    def test_the_rows_are_those_of_the_heap_of_the_shelf(self):
        made = shelf((1, 2, 0), (1, 1, 0), (1, 0, 0), summaries=summaries(), looks=LookBook(tells=True))
        other = Heap()
        other.put("a", (0, 1, 0))
        totals = Totals(made.books.summaries, other)
        totals.restore("top", (2, True))
        asked = Shelf(WORLD, made.books, made.heap, made.entries, totals)
        self.assertEqual(asked.ask(0, self.TOP, ("summary", "top")), (("greatest", 1), 3))


class TestEdges(unittest.TestCase):
    def ask(self, *rows, kind="greatest", edge="q", change=None, **options):
        index = Index("q", "a", 1, ("equal", 2, 1))
        book = SummaryBook(Summary("top", "a", kind, 1, ("equal", 2, 1)), edges=[("top", edge)], **options)
        made = shelf(*rows, indexes=IndexBook(index, Index("p", "a", 0, ALWAYS)), summaries=book,
                     looks=LookBook(tells=True))
        made.totals.restore("top", (7, False))
        question = book.summaries[0].question()
        return made.ask(0, question, ("summary", "top"))

    def test_the_last_known_value_of_the_index(self):
        self.assertEqual(self.ask((0, 0, 1), (0, 1, 1), (0, 2, 0), (0, None, 1)), (("greatest", 1), 0))
        self.assertEqual(self.ask((0, None, 1)), (("greatest", None), 0))
        self.assertEqual(self.ask(), (("greatest", None), 0))
        self.assertEqual(self.ask((0, 0, 1)), (("greatest", 0), 0))

    def test_edges_that_are_of_no_use(self):
        rows = [(0, 1, 1), (0, 0, 1)]
        # There is no such index, it has another column, or the summary is of another kind.
        self.assertEqual(self.ask(*rows, edge="zz"), (("greatest", 7), 0))
        self.assertEqual(self.ask(*rows, edge="p"), (("greatest", 7), 0))
        self.assertEqual(self.ask(*rows, kind="sum"), (("sum", 7), 0))
        self.assertEqual(self.ask(*rows, kind="count"), (("count", 7), 0))

    def test_the_edge_of_another_summary(self):
        index = Index("i", "a", 1, ALWAYS)
        names = [Summary("top", "a", "greatest", 1, ALWAYS), Summary("twin", "a", "greatest", 1, ALWAYS)]
        made = shelf((0, 1, 1), indexes=IndexBook(index), summaries=SummaryBook(*names, edges=[("twin", "i")]))
        for name in ("top", "twin"):
            made.totals.restore(name, (7, False))
        told = [made.ask(0, one.question(), ("summary", one.name))[0] for one in names]
        self.assertEqual(told, [("greatest", 7), ("greatest", 1)])

    def test_an_index_of_another_table(self):
        index = Index("i", "b", 1, ALWAYS)
        book = SummaryBook(Summary("top", "a", "greatest", 1, ALWAYS), edges=[("top", "i")])
        made = shelf((0, 1, 1), indexes=IndexBook(index), summaries=book)
        made.heap.put("b", (2, 2, 2))
        made.entries.fill(made.heap)
        self.assertEqual(made.ask(0, book.summaries[0].question(), ("summary", "top")), (("greatest", 1), None))

    def test_an_edge_that_is_of_use_settles_nothing(self):
        index = Index("q", "a", 1, ALWAYS)
        book = SummaryBook(Summary("top", "a", "greatest", 1, ALWAYS), edges=[("top", "q")], greatest="question")
        made = shelf((0, 2, 1), (0, 1, 1), indexes=IndexBook(index), summaries=book, looks=LookBook(tells=True))
        made.write("a", 0, (0, 2, 1), None)
        self.assertEqual(made.ask(0, book.summaries[0].question(), ("summary", "top")), (("greatest", 1), 0))
        self.assertTrue(made.totals.is_open("top"))

    def test_entries_without_rows_count(self):
        index = Index("q", "a", 1, ALWAYS)
        book = SummaryBook(Summary("top", "a", "greatest", 1, ALWAYS), edges=[("top", "q")])
        made = shelf((0, 2, 1), indexes=IndexBook(index), summaries=book)
        made.heap.write("a", 0, None)
        self.assertEqual(made.ask(0, book.summaries[0].question(), ("summary", "top")), (("greatest", 2), None))


class TestLooksAhead(unittest.TestCase):
    def test_nothing_is_settled(self):
        made = shelf((1, 2, 0), (2, 1, 0), summaries=summaries(greatest="question"), looks=LookBook(tells=True))
        made.write("a", 0, (1, 2, 0), None)
        for _ in range(2):
            self.assertEqual(made.looks_ahead(0, TestAskSummaries.TOP, ("summary", "top")), 1)
        self.assertTrue(made.totals.is_open("top"))

    def test_a_refused_question_finds_no_rows(self):
        made = shelf((0, 0, 0), (1, 1, 1), looks=LookBook(tells=True))
        self.assertEqual(made.looks_ahead(0, ("count", "a", DIVIDING, ""), TABLE), 2)
        made = shelf((0, 0, 0), (1, 1, 1), looks=LookBook(tells=True, counts="found"))
        self.assertEqual(made.looks_ahead(0, ("count", "a", DIVIDING, ""), TABLE), 0)
        self.assertEqual(made.looks_ahead(0, ("count", "a", ("equal", 0, 1), ""), TABLE), 1)
        self.assertIsNone(shelf((0, 0, 0)).looks_ahead(0, ("count", "a", ALWAYS, ""), TABLE))


class TestRightBooks(unittest.TestCase):
    def test_every_road_tells_what_the_plain_store_tells(self):
        roads = []
        for chance in chances(150, "roads"):
            world = some_world(chance)
            books = some_books(chance, world)
            book = IndexBook(*books.indexes.indexes)
            hiding = HidingBook(*books.hiding.rules)
            books = Books(indexes=book, hiding=hiding, summaries=SummaryBook(*books.summaries.summaries),
                          looks=LookBook(tells=True))
            start = some_start(chance, world, books)
            made = shelf_of(world, books, start.heap)
            for _ in range(10):
                question = some_question(chance, world, books)
                user = chance.randrange(3)
                road = made.road(user, question)
                roads.append(road[0])
                told, _ = run_plainly(world, made.heap, question, lambda table, row: hiding.sight(user, table, row))
                try:
                    self.assertEqual(made.ask(user, question, road)[0], told)
                except ZeroDivisor:
                    self.assertEqual(told, ("refused", "zero"))
            for index in book.indexes:
                self.assertEqual(made.entries.listed(index.name), due_entries(index, made.heap))
        self.assertGreater(min(roads.count(word) for word in ("table", "index", "summary")), 100)
