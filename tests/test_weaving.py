import unittest

from bookstogether.bookshelf import Books
from bookstogether.entries import due_entries
from bookstogether.heaps import Heap
from bookstogether.hidingbooks import HidingBook
from bookstogether.indexbooks import IndexBook
from bookstogether.lockbooks import LockBook
from bookstogether.locktables import LockTable
from bookstogether.logbooks import LogBook
from bookstogether.logs import Log
from bookstogether.lookbooks import LookBook
from bookstogether.summarybooks import Summary, SummaryBook
from bookstogether.weaving import Main
from bookstogether.worlds import World

from tests.samples import ALWAYS

RULED = World(["a", "b"], [("p", "a", 0, ALWAYS)])
TABLE = ("table",)
COUNT = ("count", "a", ALWAYS, "")
ROWS = LockBook(read="rows", write="row", lasts="turn")


class Teller(Log):
    """A log that remembers what it is told."""

    def __init__(self, book):
        super().__init__(book)
        self.told = []

    def begin(self, script):
        self.told.append(("begin", script))
        super().begin(script)

    def wrote(self, script, statement, changes):
        self.told.append(("wrote", script, statement, changes))
        super().wrote(script, statement, changes)

    def undone(self, script, changes):
        self.told.append(("undone", script, changes))
        super().undone(script, changes)

    def end(self, script):
        self.told.append(("end", script))
        super().end(script)

    def back(self, script):
        self.told.append(("back", script))
        super().back(script)


def main_of(*rows, world=RULED, table="a", **books):
    heap = Heap()
    for row in rows:
        heap.put(table, row)
    return Main(world, Books(**books), heap, Teller(LogBook()))


def put(main, user, row, table="a"):
    return main.do(user, ("put", table, row), TABLE)


class TestScripts(unittest.TestCase):
    def test_a_new_main_store(self):
        heap, log = Heap(), Log(LogBook())
        heap.put("a", (0, 0, 0))
        books = Books(indexes=IndexBook.of_world(RULED))
        main = Main(RULED, books, heap, log)
        self.assertIs(main.shelf.heap, heap)
        self.assertEqual(main.shelf.entries.listed("p"), [(0, 0)])
        self.assertIsInstance(main.table, LockTable)
        self.assertIs(main.table.book, books.locks)
        self.assertEqual((main.position, main.order(), len(log)), (0, [], 0))

    def test_scripts_are_numbered_as_they_begin(self):
        main = main_of(locks=LockBook(read="rows", write="row"))
        self.assertEqual(put(main, 2, (0, 0, 0)), (("put", (0, 0, 0)), None, 0))
        self.assertEqual(put(main, 0, (1, 0, 0)), (("put", (1, 0, 0)), None, 1))
        self.assertEqual(put(main, 2, (2, 0, 0))[2], 0)
        self.assertEqual(main.end(2), ("ended",))
        self.assertEqual(put(main, 2, (None, 0, 0))[2], 2)
        self.assertEqual([told[:2] for told in main.log.told], [
            ("begin", 0), ("wrote", 0), ("begin", 1), ("wrote", 1), ("wrote", 0), ("end", 0), ("begin", 2),
            ("wrote", 2),
        ])

    def test_questions_and_refused_statements_begin_scripts(self):
        main = main_of((0, 0, 0))
        self.assertEqual(main.do(0, COUNT, TABLE), (("count", 1), None, 0))
        self.assertEqual(main.end(0), ("ended",))
        self.assertEqual(put(main, 0, (0, 1, 1)), (("refused", "duplicate", "p"), None, 1))
        self.assertEqual(main.log.told, [("begin", 0), ("end", 0), ("begin", 1)])
        self.assertEqual(main.position, 0)

    def test_what_the_log_is_told(self):
        summaries = SummaryBook(
            Summary("many", "a", "count", 0, ALWAYS), Summary("top", "a", "greatest", 0, ALWAYS),
            Summary("all", "a", "sum", 1, ALWAYS),
        )
        main = main_of((1, 1, 1), summaries=summaries)
        change = ("change", "a", ALWAYS, 1, 2)
        main.do(0, change, TABLE)
        main.do(0, ("remove", "a", ALWAYS), TABLE)
        put(main, 0, (2, 0, 0))
        wrote = [
            ("wrote", 0, change, [(("row", "a", 0, (1, 2, 1)), [("all", 1)])]),
            ("wrote", 0, ("remove", "a", ALWAYS), [(("row", "a", 0, None), [("many", -1), ("all", -2)])]),
            ("wrote", 0, ("put", "a", (2, 0, 0)), [(("row", "a", 1, (2, 0, 0)), [("many", 1)])]),
        ]
        self.assertEqual(main.log.told, [("begin", 0)] + wrote)
        main.back(0)
        undone = ("undone", 0, [
            (("row", "a", 1, None), [("many", -1)]), (("row", "a", 0, (1, 2, 1)), [("many", 1), ("all", 2)]),
            (("row", "a", 0, (1, 1, 1)), [("all", -1)]),
        ])
        self.assertEqual(main.log.told[4:], [undone, ("back", 0)])

    def test_position_counts_ended_scripts_that_wrote(self):
        main = main_of()
        for word, position in (("end", 1), ("back", 1), ("end", 2)):
            put(main, 0, (None, None, None))
            getattr(main, word)(0)
            self.assertEqual(main.position, position)
        main.do(0, COUNT, TABLE)
        main.end(0)
        put(main, 0, (0, 0, 0))
        main.do(0, ("remove", "a", ("equal", 0, 2)), TABLE)
        self.assertEqual(main.position, 2)
        main.end(0)
        self.assertEqual(main.position, 3)

    def test_the_order(self):
        main = main_of(locks=ROWS)
        for user in (2, 1, 0):
            put(main, user, (user, 0, 0))
        self.assertEqual(main.order(), [2, 1, 0])
        main.back(1)
        self.assertEqual(main.order(), [1, 2, 0])
        main.end(2)
        self.assertEqual(main.order(), [1, 0, 2])
        put(main, 1, (1, 1, 1))
        self.assertEqual(main.order(), [1, 0, 2, 3])
        main.order().clear()
        main.end(1)
        self.assertEqual(main.order(), [1, 0, 3, 2])


class TestEndsAndBack(unittest.TestCase):
    def test_without_an_open_script(self):
        main = main_of((0, 0, 0))
        for user in range(3):
            self.assertEqual((main.end(user), main.back(user)), (("idle",), ("idle",)))
        put(main, 0, (1, 1, 1))
        main.end(0)
        self.assertEqual((main.end(0), main.back(0)), (("idle",), ("idle",)))
        self.assertEqual((len(main.shelf.heap), main.log.told[-1], main.position), (2, ("end", 0), 1))

    def test_back_undoes_the_writes(self):
        main = main_of((0, 0, 0), (1, 1, 1), indexes=IndexBook.of_world(RULED))
        main.do(1, ("change", "a", ("equal", 0, 0), 0, 2), TABLE)
        main.do(1, ("remove", "a", ("equal", 0, 1)), TABLE)
        put(main, 1, (0, 2, 2))
        self.assertEqual(main.back(1), ("undone",))
        self.assertEqual(main.shelf.heap.pairs("a"), [(0, (0, 0, 0)), (1, (1, 1, 1))])
        self.assertEqual(main.shelf.entries.listed("p"), [(0, 0), (1, 1)])
        # The number that was given away is not given again.
        self.assertEqual(main.shelf.heap.fresh, 3)

    def test_back_of_a_script_without_writes(self):
        main = main_of()
        main.do(0, COUNT, TABLE)
        self.assertEqual(main.back(0), ("undone",))
        self.assertEqual(main.log.told, [("begin", 0), ("back", 0)])

    def test_an_end_releases_the_user(self):
        for word in ("end", "back"):
            main = main_of()
            put(main, 0, (0, 0, 0))
            self.assertEqual(put(main, 1, (1, 1, 1)), (("waits",), None, None))
            self.assertEqual(main.table.waiting(1), (0,))
            getattr(main, word)(0)
            self.assertEqual((main.table.held(0), main.table.age(0)), ((), None))
            self.assertEqual(put(main, 1, (1, 1, 1))[0], ("put", (1, 1, 1)))

    def test_a_user_that_waits_and_ends_without_a_script(self):
        for word in ("end", "back"):
            main = main_of()
            put(main, 0, (0, 0, 0))
            put(main, 1, (1, 1, 1))
            self.assertEqual(getattr(main, word)(1), ("idle",))
            self.assertEqual(main.table.waiting(1), ())


class TestUndo(unittest.TestCase):
    def main(self, undo, greatest="write"):
        summaries = SummaryBook(
            Summary("many", "a", "count", 0, ALWAYS), Summary("top", "a", "greatest", 0, ALWAYS), undo=undo,
            greatest=greatest
        )
        return main_of((1, 1, 1), summaries=summaries, locks=LockBook(read="table", write="row"))

    def saved(self, main):
        return [main.shelf.totals.saved(name) for name in ("many", "top")]

    def test_each_word_alone(self):
        for undo in ("difference", "image"):
            main = self.main(undo)
            put(main, 0, (2, 2, 2))
            main.do(0, ("remove", "a", ("equal", 0, 1)), TABLE)
            self.assertEqual(self.saved(main), [(1, False), (2, False)])
            main.back(0)
            self.assertEqual(self.saved(main), [(1, False), (1, False)])

    def test_an_image_takes_the_writes_of_others_along(self):
        for undo, many in (("difference", 2), ("image", 1)):
            main = self.main(undo)
            put(main, 0, (2, 2, 2))
            put(main, 1, (0, 0, 0))
            main.back(0)
            self.assertEqual(self.saved(main), [(many, False), (1, False)])

    def test_an_image_is_that_of_before_the_first_write(self):
        main = self.main("image")
        put(main, 0, (2, 2, 2))
        put(main, 0, (0, 0, 0))
        main.do(0, ("remove", "a", ALWAYS), TABLE)
        main.back(0)
        self.assertEqual(self.saved(main), [(1, False), (1, False)])

    def test_only_summaries_whose_share_was_changed(self):
        main = self.main("image")
        main.shelf.totals.restore("top", (2, True))
        main.do(0, ("put", "a", (None, 0, 0)), TABLE)
        main.shelf.totals.restore("top", (0, False))
        main.back(0)
        self.assertEqual(self.saved(main), [(1, False), (0, False)])

    def test_undoing_may_leave_a_greatest_value_open(self):
        for undo, saved in (("difference", (2, True)), ("image", (1, False))):
            main = self.main(undo, greatest="question")
            put(main, 0, (2, 2, 2))
            main.back(0)
            self.assertEqual(main.shelf.totals.saved("top"), saved)

    def test_the_entries_are_written_with_both_words(self):
        for undo in ("difference", "image"):
            main = main_of((1, 1, 1), summaries=SummaryBook(undo=undo), indexes=IndexBook.of_world(RULED))
            main.do(0, ("remove", "a", ALWAYS), TABLE)
            main.back(0)
            index = main.shelf.books.indexes.index("p")
            self.assertEqual(main.shelf.entries.listed("p"), due_entries(index, main.shelf.heap))


class TestLocks(unittest.TestCase):
    def test_nothing_is_done_by_one_who_waits(self):
        main = main_of((0, 0, 0))
        main.do(0, COUNT, TABLE)
        self.assertEqual(main.do(1, ("remove", "a", ALWAYS), TABLE), (("waits",), None, None))
        self.assertEqual((len(main.shelf.heap), main.log.told, main.order()), (1, [("begin", 0)], [0]))

    def test_back_takes_the_script_back(self):
        locks = LockBook(read="table", write="table", clash="back")
        main = main_of(locks=locks)
        put(main, 1, (0, 0, 0), table="b")
        put(main, 0, (0, 0, 0))
        self.assertEqual(put(main, 1, (1, 1, 1)), (("back",), None, None))
        self.assertEqual((main.shelf.heap.bag("b"), main.shelf.heap.bag("a")), ([], [(0, 0, 0)]))
        self.assertEqual((main.table.held(1), main.table.age(1)), ((), None))
        self.assertEqual(main.log.told[-2:], [("undone", 0, [(("row", "b", 0, None), [])]), ("back", 0)])
        self.assertEqual(main.order(), [0, 1])

    def test_back_without_an_open_script(self):
        main = main_of((0, 0, 0), locks=LockBook(clash="back"))
        main.do(0, COUNT, TABLE)
        self.assertEqual(put(main, 1, (1, 1, 1)), (("back",), None, None))
        self.assertEqual((main.log.told, main.order(), main.table.held(1)), ([("begin", 0)], [0], ()))

    def test_ages(self):
        locks = LockBook(read="table", write="table", clash="age")
        main = main_of(locks=locks)
        put(main, 0, (0, 0, 0))
        put(main, 1, (0, 0, 0), table="b")
        self.assertEqual(put(main, 0, (0, 0, 0), table="b")[0], ("waits",))
        self.assertEqual(put(main, 1, (1, 0, 0))[0], ("back",))
        self.assertEqual(put(main, 0, (0, 0, 0), table="b")[0], ("put", (0, 0, 0)))

    def test_locks_that_last_for_a_turn(self):
        main = main_of(locks=LockBook(lasts="turn"))
        self.assertEqual(put(main, 0, (0, 0, 0))[0], ("put", (0, 0, 0)))
        self.assertEqual((main.table.held(0), main.table.age(0)), ((), 0))
        self.assertEqual(main.do(1, COUNT, TABLE)[0], ("count", 1))

    def test_locks_that_last_to_the_end(self):
        main = main_of()
        put(main, 0, (0, 0, 0))
        self.assertEqual(main.table.held(0), ((("store",), "x"),))

    def test_the_road_decides_on_the_needs(self):
        main = main_of((0, 0, 0), indexes=IndexBook.of_world(RULED), locks=LockBook(read="road", write="row"))
        main.do(0, ("count", "a", ALWAYS, "p"), ("index", "p", (None, 0, 1, 2)))
        self.assertEqual(main.table.held(0)[2], (("index", "p"), "s"))
        main.do(1, ("count", "a", ALWAYS, ""), TABLE)
        self.assertEqual(main.table.held(1)[1], (("table", "a"), "s"))


class TestSpentLooks(unittest.TestCase):
    LOOKS = LookBook(tells=True)

    def main(self, *rows, asks="behind", looks=LOOKS, **books):
        main = main_of(*rows, locks=LockBook(read="table", write="table", asks=asks), looks=looks, **books)
        put(main, 0, (None, None, None))
        return main

    def test_looks_while_waiting_are_added(self):
        main = self.main((0, 0, 0))
        for _ in range(2):
            self.assertEqual(main.do(1, COUNT, TABLE), (("waits",), None, None))
        main.end(0)
        self.assertEqual(main.do(1, COUNT, TABLE), (("count", 2), 6, 0 + 1))
        self.assertEqual(main.do(1, COUNT, TABLE), (("count", 2), 2, 1))

    def test_ahead_spends_nothing(self):
        main = self.main((0, 0, 0), asks="ahead")
        main.do(1, COUNT, TABLE)
        main.end(0)
        self.assertEqual(main.do(1, COUNT, TABLE)[1], 2)

    def test_looks_that_are_not_told(self):
        main = self.main((0, 0, 0), looks=LookBook())
        main.do(1, COUNT, TABLE)
        main.end(0)
        self.assertIsNone(main.do(1, COUNT, TABLE)[1])

    def test_statements_that_are_no_questions_spend_nothing(self):
        main = self.main((0, 0, 0))
        main.do(1, ("remove", "a", ALWAYS), TABLE)
        main.end(0)
        self.assertEqual(main.do(1, COUNT, TABLE)[1], 2)

    def test_any_statement_makes_the_spent_looks_0(self):
        for statement in (("put", "b", (0, 0, 0)), ("count", "b", ("quotient", 0, 0, 0), "")):
            main = self.main((0, 0, 0))
            main.do(1, COUNT, TABLE)
            main.shelf.heap.put("b", (0, 0, 0))
            self.assertIsNone(main.do(1, statement, TABLE)[1])
            main.end(0)
            self.assertEqual(main.do(1, COUNT, TABLE)[1], 2)

    def test_an_end_and_a_back_make_them_0(self):
        for word in ("end", "back"):
            main = self.main((0, 0, 0))
            main.do(1, COUNT, TABLE)
            self.assertEqual(getattr(main, word)(1), ("idle",))
            main.end(0)
            self.assertEqual(main.do(1, COUNT, TABLE)[1], 2)

    def test_a_lock_that_sends_back_makes_them_0(self):
        locks = LockBook(read="table", write="table", asks="behind", clash="age")
        main = main_of((0, 0, 0), locks=locks, looks=self.LOOKS)
        put(main, 1, (0, 0, 0), table="b")
        put(main, 2, (None, 0, 0))
        self.assertEqual(main.do(1, COUNT, TABLE)[0], ("waits",))
        main.end(1)
        put(main, 1, (1, 1, 1), table="b")
        self.assertEqual(main.do(1, COUNT, TABLE)[0], ("back",))
        main.end(2)
        self.assertEqual(main.do(1, COUNT, TABLE)[1], 2)

    def test_each_user_has_its_own(self):
        main = self.main((0, 0, 0))
        main.do(1, COUNT, TABLE)
        main.end(0)
        self.assertEqual((main.do(2, COUNT, TABLE)[1], main.do(1, COUNT, TABLE)[1]), (2, 4))

    def test_a_question_that_would_be_refused(self):
        refused = ("count", "a", ("quotient", 0, 1, 1), "")
        for counts, spent in (("looked", 2), ("found", 0)):
            main = self.main((0, 0, 0), looks=LookBook(tells=True, counts=counts))
            self.assertEqual(main.do(1, refused, TABLE)[0], ("waits",))
            main.end(0)
            self.assertEqual(main.do(1, COUNT, TABLE)[1], 2 + spent)

    def test_nothing_is_settled_by_waiting(self):
        summaries = SummaryBook(Summary("top", "a", "greatest", 0, ALWAYS), greatest="question")
        main = main_of((2, 0, 0), (1, 0, 0), summaries=summaries, looks=self.LOOKS, locks=LockBook(asks="behind"))
        main.do(0, ("remove", "a", ("equal", 0, 2)), TABLE)
        question, road = summaries.summaries[0].question(), ("summary", "top")
        for _ in range(2):
            self.assertEqual(main.do(1, question, road)[0], ("waits",))
        self.assertTrue(main.shelf.totals.is_open("top"))
        main.end(0)
        self.assertEqual(main.do(1, question, road)[:2], (("greatest", 1), 3))
        self.assertEqual(main.do(1, question, road)[:2], (("greatest", 1), 0))

    def test_hidden_rows_count_as_the_book_says(self):
        for told, looks in (("shown", 2), ("all", 4)):
            main = self.main((0, 0, 0), hiding=HidingBook((1, "a", ("unknown", 0)), told=told))
            main.do(1, COUNT, TABLE)
            main.end(0)
            self.assertEqual(main.do(1, COUNT, TABLE)[:2], (("count", 1), looks))
