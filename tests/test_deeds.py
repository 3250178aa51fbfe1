import unittest

from bookstogether.bookshelf import Books
from bookstogether.deeds import carry_out
from bookstogether.entries import due_entries
from bookstogether.heaps import Heap
from bookstogether.hidingbooks import HidingBook
from bookstogether.indexbooks import Index, IndexBook
from bookstogether.lookbooks import LookBook
from bookstogether.running import run_plainly
from bookstogether.shelves import shelf_of
from bookstogether.summarybooks import Summary, SummaryBook
from bookstogether.upsertbooks import UpsertBook
from bookstogether.worlds import World

from tests.bookmaker import some_books, some_start, some_statement, some_world
from tests.samples import ALWAYS, WORLD, chances

TABLE = ("table",)
DIVIDING = ("quotient", 1, 0, 1)
RULED = World(["a", "b"], [("p", "a", 0, ALWAYS), ("q", "a", 1, ALWAYS)])


def shelf(*rows, world=RULED, **books):
    heap = Heap()
    for row in rows:
        heap.put("a", row)
    return shelf_of(world, Books(**books), heap)


def held(*names, **options):
    """A book of indexes that hold the rules of RULED with these names."""
    return IndexBook(*[Index.of_rule(RULED.rule(name)) for name in names], **options)


def rows_of(made):
    return made.heap.pairs("a")


class TestTells(unittest.TestCase):
    def test_a_put(self):
        made = shelf((0, 0, 0))
        result = carry_out(made, 0, ("put", "a", (1, 1, 1)), TABLE)
        self.assertEqual(result, (("put", (1, 1, 1)), None, [("a", 1, None, (1, 1, 1))], {}))
        self.assertEqual(rows_of(made), [(0, (0, 0, 0)), (1, (1, 1, 1))])
        self.assertEqual(carry_out(made, 0, ("put", "a", (2, 1, 0)), TABLE),
                         (("refused", "duplicate", "q"), None, [], {}))
        self.assertEqual(made.heap.fresh, 2)

    def test_a_change(self):
        made = shelf((0, 2, 0), (1, 1, 0), (2, 0, 0))
        result = carry_out(made, 0, ("change", "a", ("below", 0, 2), 2, 1), TABLE)
        writes = [("a", 0, (0, 2, 0), (0, 2, 1)), ("a", 1, (1, 1, 0), (1, 1, 1))]
        self.assertEqual(result, (("changed", 2), None, writes, {}))
        # Also what stays equal is stored.
        result = carry_out(made, 0, ("change", "a", ("equal", 0, 2), 2, 0), TABLE)
        self.assertEqual(result[:3], (("changed", 1), None, [("a", 2, (2, 0, 0), (2, 0, 0))]))

    def test_rows_are_taken_in_ascending_order(self):
        made = shelf((2, 0, 0), (1, 1, 0), (None, 2, 0))
        _, _, writes, _ = carry_out(made, 0, ("remove", "a", ALWAYS), TABLE)
        self.assertEqual([number for _, number, _, _ in writes], [2, 1, 0])
        free = shelf((None, None, 1), (None, None, 0), (None, None, 0))
        _, _, writes, _ = carry_out(free, 0, ("change", "a", ALWAYS, 2, 2), TABLE)
        self.assertEqual([number for _, number, _, _ in writes], [1, 2, 0])

    def test_a_remove(self):
        made = shelf((0, 0, 0), (1, 1, 1))
        result = carry_out(made, 0, ("remove", "a", ("equal", 0, 0)), TABLE)
        self.assertEqual(result, (("removed", 1), None, [("a", 0, (0, 0, 0), None)], {}))
        self.assertEqual(rows_of(made), [(1, (1, 1, 1))])

    def test_questions_go_by_their_road(self):
        made = shelf((0, 0, 0), (1, 1, 1), indexes=held("p", "q"), looks=LookBook(tells=True))
        question = ("count", "a", ("equal", 0, 1), "p")
        self.assertEqual(carry_out(made, 0, question, ("index", "p", (1,))), (("count", 1), 1, [], {}))
        self.assertEqual(carry_out(made, 0, question, TABLE), (("count", 1), 2, [], {}))
        made.entries.lists["p"] = []
        self.assertEqual(carry_out(made, 0, question, ("index", "p", (1,))), (("count", 0), 0, [], {}))

    def test_a_refused_question_has_no_looks(self):
        made = shelf((0, 0, 0), looks=LookBook(tells=True))
        self.assertEqual(carry_out(made, 0, ("count", "a", DIVIDING, ""), TABLE), (("refused", "zero"), None, [], {}))

    def test_a_question_may_settle_a_summary(self):
        book = SummaryBook(Summary("top", "a", "greatest", 0, ALWAYS), greatest="question")
        made = shelf((2, 0, 0), (1, 1, 1), summaries=book, looks=LookBook(tells=True))
        carry_out(made, 0, ("remove", "a", ("equal", 0, 2)), TABLE)
        question = book.summaries[0].question()
        self.assertEqual(carry_out(made, 0, question, ("summary", "top")), (("greatest", 1), 1, [], {}))
        self.assertEqual(carry_out(made, 0, question, ("summary", "top")), (("greatest", 1), 0, [], {}))


class TestHiding(unittest.TestCase):
    HIDING = HidingBook((1, "a", ("not", ("equal", 0, 0))))

    def test_rows_that_are_not_shown(self):
        made = shelf((0, 0, 0), (1, 1, 1), hiding=self.HIDING)
        self.assertEqual(carry_out(made, 1, ("put", "a", (0, 2, 2)), TABLE)[0], ("refused", "hidden"))
        # The row with 0 is hidden, so that nothing clashes with the new one in column 1.
        self.assertEqual(carry_out(made, 1, ("put", "a", (2, 0, 0)), TABLE)[0], ("put", (2, 0, 0)))
        self.assertEqual(carry_out(made, 1, ("change", "a", ALWAYS, 2, 2), TABLE)[0], ("changed", 2))
        self.assertEqual(rows_of(made), [(0, (0, 0, 0)), (1, (1, 1, 2)), (2, (2, 0, 2))])
        self.assertEqual(carry_out(made, 1, ("change", "a", ("equal", 0, 1), 0, 0), TABLE)[0], ("refused", "hidden"))
        self.assertEqual(carry_out(made, 0, ("put", "a", (2, 2, 2)), TABLE)[0], ("refused", "duplicate", "p"))

    def test_passes_tests_every_row(self):
        rows = [(0, 0, 0), (1, 1, 1)]
        ask = HidingBook(*self.HIDING.rules, first="ask")
        for statement in (("remove", "a", DIVIDING), ("change", "a", DIVIDING, 2, 2)):
            made = shelf(*rows, hiding=self.HIDING)
            self.assertEqual(carry_out(made, 1, statement, TABLE)[0][1], 1)
            made = shelf(*rows, hiding=ask)
            self.assertEqual(carry_out(made, 1, statement, TABLE), (("refused", "zero"), None, [], {}))
            self.assertEqual(rows_of(made), list(enumerate(rows)))

    def test_zero_comes_before_the_other_refusals(self):
        made = shelf((0, 0, 0), (1, 1, 1))
        self.assertEqual(carry_out(made, 0, ("change", "a", DIVIDING, 0, 0), TABLE)[0], ("refused", "zero"))


class TestClashes(unittest.TestCase):
    def test_an_index_that_holds_the_rule_sees_hidden_rows(self):
        hiding = HidingBook((1, "a", ("not", ("equal", 0, 0))))
        made = shelf((0, 0, 0), (2, 2, 2), hiding=hiding, indexes=held("p", "q"))
        self.assertEqual(carry_out(made, 1, ("put", "a", (1, 0, 0)), TABLE)[0], ("refused", "duplicate", "q"))

    def test_rules_that_no_index_holds(self):
        made = shelf((0, 0, 0), indexes=held("q"))
        self.assertEqual(carry_out(made, 0, ("put", "a", (0, 1, 1)), TABLE)[0], ("refused", "duplicate", "p"))

    def test_the_rules_in_their_order(self):
        for indexes in (held("p", "q"), held("q", "p"), held("q"), held()):
            made = shelf((0, 0, 0), (1, 1, 1), indexes=indexes)
            self.assertEqual(carry_out(made, 0, ("put", "a", (0, 1, 1)), TABLE)[0], ("refused", "duplicate", "p"))

    def test_entries_decide(self):
        made = shelf((0, 0, 0), indexes=held("p", "q"))
        made.entries.lists["p"] = []
        self.assertEqual(carry_out(made, 0, ("put", "a", (0, 0, 1)), TABLE)[0], ("refused", "duplicate", "q"))
        made.entries.lists["q"] = []
        self.assertEqual(carry_out(made, 0, ("put", "a", (0, 0, 1)), TABLE)[0], ("put", (0, 0, 1)))

    def test_an_entry_of_the_own_number_is_no_twin(self):
        made = shelf((0, 0, 0), (1, 1, 1), indexes=held("p", "q"))
        self.assertEqual(carry_out(made, 0, ("change", "a", ("equal", 0, 0), 2, 2), TABLE)[0], ("changed", 1))
        made.entries.lists["p"] = [(2, 2)]
        # The put would get the number 2, under which there is an entry already.
        self.assertEqual(carry_out(made, 0, ("put", "a", (2, 2, 2)), TABLE)[0], ("put", (2, 2, 2)))

    def test_what_does_not_touch_the_index_does_not_clash(self):
        rows = [(0, 0, 0), (1, 1, 1)]
        change = ("change", "a", ("equal", 0, 1), 0, 0)
        for writes, told in (("both", ("refused", "duplicate", "p")), ("column", ("refused", "duplicate", "p")),
                             ("put", ("changed", 1))):
            made = shelf(*rows, indexes=held("p", "q", writes=writes))
            self.assertEqual(carry_out(made, 0, change, TABLE)[0], told)
        # A put touches an index in any case.
        made = shelf(*rows, indexes=held("p", "q", writes="put"))
        self.assertEqual(carry_out(made, 0, ("put", "a", (0, 2, 2)), TABLE)[0], ("refused", "duplicate", "p"))

    def test_column_looks_at_the_column_of_the_index(self):
        # The rule holds rows with an equal third column alone; the index on column 0 is not touched by such a change.
        world = World(["a", "b"], [("p", "a", 0, ("equal", 2, 1))])
        index = IndexBook(Index.of_rule(world.rule("p")), writes="column")
        made = shelf((0, 0, 0), (0, 1, 1), world=world, indexes=index)
        self.assertEqual(carry_out(made, 0, ("change", "a", ("equal", 2, 0), 2, 1), TABLE)[0], ("changed", 1))
        made = shelf((0, 0, 0), (0, 1, 1), world=world, indexes=IndexBook(*index.indexes))
        self.assertEqual(carry_out(made, 0, ("change", "a", ("equal", 2, 0), 2, 1), TABLE)[0],
                         ("refused", "duplicate", "p"))


class TestUpserts(unittest.TestCase):
    ROWS = [(0, 1, 0), (1, 2, 1)]

    def upsert(self, asked, names, sets=(), user=0, rows=ROWS, entries=None, **books):
        made = shelf(*rows, **books)
        if entries is not None:
            made.entries.lists.update(entries)
        return carry_out(made, user, ("upsert", "a", asked, names, sets), TABLE)[0], rows_of(made)

    def test_as_the_plain_store_does(self):
        self.assertEqual(self.upsert((0, 0, 2), ("p",), ((2, "new"),))[0], ("changed", (0, 1, 0), (0, 1, 2)))
        self.assertEqual(self.upsert((0, 0, 0), ("p",), ((2, "new"),))[0], ("kept", (0, 1, 0)))
        self.assertEqual(self.upsert((2, 0, 2), ("p", "q"))[0], ("put", (2, 0, 2)))
        self.assertEqual(self.upsert((0, 2, 2), ("q", "p"))[0], ("refused", "ambiguous"))
        self.assertEqual(self.upsert((0, 0, 2), ())[0], ("refused", "duplicate", "p"))
        self.assertEqual(self.upsert((0, 2, 2), ("p",), ((1, "new"),))[0], ("refused", "duplicate", "q"))

    def test_tells_of_the_asked_row(self):
        book = UpsertBook(tells="asked")
        self.assertEqual(self.upsert((0, 0, 2), ("p",), ((2, "new"),), upserts=book)[0],
                         ("changed", (0, 1, 0), (0, 0, 2)))
        self.assertEqual(self.upsert((0, 0, 0), ("p",), upserts=book)[0], ("kept", (0, 0, 0)))
        self.assertEqual(self.upsert((2, 0, 2), ("p",), upserts=book)[0], ("put", (2, 0, 2)))

    def test_by_an_arbiter(self):
        book = UpsertBook(("p", "p"))
        for indexes in (held("p", "q"), held("q", "p", writes="put", serves="true")):
            told, _ = self.upsert((0, 0, 2), ("p",), ((2, "new"),), upserts=book, indexes=indexes)
            self.assertEqual(told, ("changed", (0, 1, 0), (0, 1, 2)))
            # Without its entry the row is not found; the put then clashes with nothing in the index either.
            told, _ = self.upsert((0, 0, 2), ("p",), upserts=book, indexes=indexes, entries={"p": [(1, 1)]})
            self.assertEqual(told, ("put", (0, 0, 2)))

    def test_an_arbiter_of_another_rule_is_not_asked(self):
        book = UpsertBook(("p", "p"))
        told, _ = self.upsert((0, 1, 2), ("q",), upserts=book, indexes=held("p", "q"), entries={"p": []})
        self.assertEqual(told, ("kept", (0, 1, 0)))

    def test_an_arbiter_on_another_column(self):
        index = Index("i", "a", 1, ALWAYS)
        indexes = IndexBook(*held("p", "q").indexes, index)
        # The index looks up column 1, and what it finds must clash once more, or not.
        told, _ = self.upsert((2, 1, 2), ("p",), upserts=UpsertBook(("p", "i")), indexes=indexes)
        self.assertEqual(told, ("refused", "duplicate", "q"))
        told, _ = self.upsert((2, 1, 2), ("p",), upserts=UpsertBook(("p", "i"), again=False), indexes=indexes)
        self.assertEqual(told, ("kept", (0, 1, 0)))
        told, _ = self.upsert((0, 0, 2), ("p",), upserts=UpsertBook(("p", "i"), again=False), indexes=indexes)
        self.assertEqual(told, ("refused", "duplicate", "p"))

    def test_an_arbiter_that_is_no_index_of_the_table(self):
        other = IndexBook(*held("p", "q").indexes, Index("other", "b", 0, ALWAYS))
        for name in ("zz", "other"):
            for again in (True, False):
                book = UpsertBook(("p", name), again=again)
                told, _ = self.upsert((0, 0, 2), ("p",), upserts=book, indexes=other)
                self.assertEqual(told, ("kept", (0, 1, 0)))
                told, _ = self.upsert((2, 0, 2), ("p",), upserts=book, indexes=other)
                self.assertEqual(told, ("put", (2, 0, 2)))

    def test_an_asked_row_without_a_group(self):
        world = World(["a", "b"], [("p", "a", 0, ("equal", 2, 1))])
        index = IndexBook(Index("p", "a", 0, ALWAYS, "p"))
        made = shelf((0, 1, 0), world=world, indexes=index, upserts=UpsertBook(("p", "p"), again=False))
        self.assertEqual(carry_out(made, 0, ("upsert", "a", (0, 0, 1), ("p",), ()), TABLE)[0], ("kept", (0, 1, 0)))
        # The rule gives the row (0, 0, 0) no group, so nothing is looked up for it; the put clashes in the index.
        self.assertEqual(
            carry_out(made, 0, ("upsert", "a", (0, 0, 0), ("p",), ()), TABLE)[0], ("refused", "duplicate", "p")
        )

    def test_an_unknown_value_is_looked_up_nowhere(self):
        index = Index("i", "a", 1, ALWAYS)
        indexes = IndexBook(*held("p", "q").indexes, index)
        book = UpsertBook(("p", "i"), again=False)
        told, _ = self.upsert((2, None, 0), ("p",), upserts=book, indexes=indexes, rows=[(0, None, 0)])
        self.assertEqual(told, ("put", (2, None, 0)))

    def test_only_shown_rows_are_found(self):
        hiding = HidingBook((1, "a", ("not", ("equal", 2, 0))))
        for indexes, book in ((IndexBook(), UpsertBook()), (held("p", "q"), UpsertBook(("p", "p"), ("q", "q")))):
            told, rows = self.upsert((0, 0, 2), ("p",), user=1, hiding=hiding, upserts=book, indexes=indexes)
            hidden = ("put", (0, 0, 2)) if len(indexes.indexes) == 0 else ("refused", "duplicate", "p")
            self.assertEqual(told, hidden)
            told, _ = self.upsert((0, 2, 2), ("p", "q"), user=1, hiding=hiding, upserts=book, indexes=indexes)
            self.assertEqual(told, ("kept", (1, 2, 1)))
            every = UpsertBook(*book.arbiters, sees="all")
            told, _ = self.upsert((0, 0, 2), ("p",), user=1, hiding=hiding, upserts=every, indexes=indexes)
            self.assertEqual(told, ("kept", (0, 1, 0)))
            told, _ = self.upsert((0, 2, 2), ("p", "q"), user=1, hiding=hiding, upserts=every, indexes=indexes)
            self.assertEqual(told, ("refused", "ambiguous"))

    def test_the_rows_that_are_made_must_be_shown(self):
        hiding = HidingBook((1, "a", ("not", ("equal", 2, 0))))
        told, _ = self.upsert((1, 0, 0), ("p",), user=1, hiding=hiding)
        self.assertEqual(told, ("refused", "hidden"))
        told, rows = self.upsert((1, 0, 1), ("p",), ((2, 0),), user=1, hiding=hiding)
        self.assertEqual((told, rows), (("refused", "hidden"), list(enumerate(self.ROWS))))

    def test_entries_without_rows_are_no_candidates(self):
        made = shelf((0, 1, 0), indexes=held("p", "q"), upserts=UpsertBook(("p", "p")))
        made.heap.write("a", 0, None)
        self.assertEqual(carry_out(made, 0, ("upsert", "a", (0, 2, 2), ("p",), ()), TABLE)[0],
                         ("refused", "duplicate", "p"))


class TestRefusals(unittest.TestCase):
    # The second row that is taken cannot get the value that the first one has by then.
    CHANGE = ("change", "a", ("below", 0, 2), 0, 2)

    def test_statements_that_are_refused_behind_their_first_write(self):
        for greatest, saved in (("write", (1, False)), ("question", (2, True)), ("stays", (2, False))):
            book = SummaryBook(
                Summary("top", "a", "greatest", 0, ALWAYS), Summary("many", "a", "sum", 0, ALWAYS), greatest=greatest
            )
            made = shelf((0, 0, 0), (1, 1, 1), indexes=held("p", "q"), summaries=book)
            result = carry_out(made, 0, self.CHANGE, TABLE)
            self.assertEqual(result, (("refused", "duplicate", "p"), None, [], {}))
            self.assertEqual(rows_of(made), [(0, (0, 0, 0)), (1, (1, 1, 1))])
            self.assertEqual(made.entries.listed("p"), [(0, 0), (1, 1)])
            self.assertEqual((made.totals.saved("top"), made.totals.saved("many")), (saved, (1, False)))

    def test_the_writes_are_taken_back_the_last_one_first(self):
        world = World(["a", "b"], [("p", "a", 2, ("equal", 0, 2))])
        book = SummaryBook(Summary("top", "a", "greatest", 1, ("equal", 0, 2)), greatest="question")
        rows = [(0, 0, 0), (0, 1, 1), (0, 2, 1)]
        made = shelf(*rows, world=world, summaries=book)
        self.assertEqual(carry_out(made, 0, ("change", "a", ALWAYS, 0, 2), TABLE)[0], ("refused", "duplicate", "p"))
        self.assertEqual(rows_of(made), list(enumerate(rows)))
        # Taking back (2, 1, 1) first opens the summary, which stays open.
        self.assertEqual(made.totals.saved("top"), (1, True))


class TestSummaries(unittest.TestCase):
    def test_what_was_kept_before_the_first_write(self):
        book = SummaryBook(
            Summary("many", "a", "count", 0, ("below", 0, 2)), Summary("top", "a", "greatest", 0, ALWAYS),
            Summary("other", "b", "count", 0, ALWAYS), Summary("all", "a", "sum", 1, ALWAYS), greatest="question",
        )
        made = shelf((0, 0, 0), (1, 1, 0), summaries=book)
        _, _, _, images = carry_out(made, 0, ("put", "a", (2, 2, 2)), TABLE)
        self.assertEqual(images, {"top": (1, False), "all": (1, False)})
        _, _, _, images = carry_out(made, 0, ("remove", "a", ALWAYS), TABLE)
        self.assertEqual(images, {"many": (2, False), "top": (2, False), "all": (3, False)})
        self.assertEqual(list(images), ["many", "top", "all"])
        self.assertEqual(carry_out(made, 0, ("remove", "a", ALWAYS), TABLE)[3], {})

    def test_a_summary_that_is_open_already(self):
        book = SummaryBook(Summary("top", "a", "greatest", 0, ALWAYS), greatest="question")
        made = shelf((0, 0, 0), (1, 1, 0), summaries=book)
        carry_out(made, 0, ("remove", "a", ("equal", 0, 1)), TABLE)
        self.assertEqual(carry_out(made, 0, ("put", "a", (2, 2, 2)), TABLE)[3], {"top": (1, True)})

    def test_a_change_that_changes_no_share(self):
        book = SummaryBook(Summary("top", "a", "greatest", 0, ALWAYS))
        made = shelf((0, 0, 0), summaries=book)
        self.assertEqual(carry_out(made, 0, ("change", "a", ALWAYS, 2, 2), TABLE)[3], {})


class TestRightBooks(unittest.TestCase):
    def test_right_books_tell_and_write_what_the_plain_store_does(self):
        words = {}
        for chance in chances(150, "deeds"):
            world = some_world(chance)
            books = some_books(chance, world)
            indexes = IndexBook(*[Index.of_rule(rule) for rule in world.rules][:6 * chance.randrange(2)])
            arbiters = [(rule[0], rule[0]) for rule in world.rules if chance.randrange(2)][:4]
            # Only books under which no hidden row can clash are right together with indexes that hold rules.
            hiding = HidingBook() if indexes.indexes else books.hiding
            hiding = HidingBook(*hiding.rules)
            summaries = SummaryBook(*books.summaries.summaries)
            books = Books(upserts=UpsertBook(*arbiters), indexes=indexes, hiding=hiding, summaries=summaries)
            start = some_start(chance, world, books)
            made, plain = shelf_of(world, books, start.heap.copy()), start.heap.copy()
            for _ in range(15):
                statement = some_statement(chance, world, books)
                user = chance.randrange(3)
                tell, writes = run_plainly(world, plain, statement, lambda table, row: hiding.sight(user, table, row))
                result = carry_out(made, user, statement, made.road(user, statement))
                self.assertEqual((result[0], result[1], result[2]), (tell, None, writes))
                words[(statement[0], tell[0])] = True
                for table in world:
                    self.assertEqual(made.heap.pairs(table), plain.pairs(table))
                for index in indexes.indexes:
                    self.assertEqual(made.entries.listed(index.name), due_entries(index, plain))
                for summary in summaries.summaries:
                    self.assertEqual(made.totals.current(summary.name), summary.due_amount(plain.bag(summary.table)))
        self.assertGreater(len(words), 12)

    def test_the_world_of_the_samples(self):
        made = shelf((0, 1, 1), world=WORLD, indexes=IndexBook.of_world(WORLD), upserts=UpsertBook(("q", "q")))
        self.assertEqual(carry_out(made, 0, ("upsert", "a", (2, 1, 1), ("q",), ((0, "new"),)), TABLE)[0],
                         ("changed", (0, 1, 1), (2, 1, 1)))
