import unittest

from bookstogether.bookshelf import Books
from bookstogether.copybooks import CopyBook
from bookstogether.desks import Desk
from bookstogether.errors import InvalidTurn, UnknownTable
from bookstogether.followers import Follower
from bookstogether.hidingbooks import HidingBook
from bookstogether.indexbooks import Index, IndexBook
from bookstogether.lockbooks import LockBook
from bookstogether.logbooks import LogBook
from bookstogether.logs import Log
from bookstogether.lookbooks import LookBook
from bookstogether.sessions import Sessions
from bookstogether.stores import Store
from bookstogether.summarybooks import Summary, SummaryBook
from bookstogether.weaving import Main
from bookstogether.worlds import World

from tests.samples import ALWAYS
from tests.test_turns import NO_TURNS

RULED = World(["a", "b"], [("p", "a", 0, ALWAYS)])
TABLE = ("table",)
COUNT = ("count", "a", ALWAYS, "")
SERVED = CopyBook(served=True)


def store_of(*rows, world=RULED):
    store = Store(world)
    for row in rows:
        store.load("a", row)
    return store


def desk_of(*rows, **books):
    return Desk(RULED, Books(**{"copies": SERVED, **books}), store_of(*rows))


def put(user, row, table="a"):
    return ("do", user, ("put", table, row))


def fields(event):
    return (event.looks, event.road, event.script, event.position, event.broken, event.ring)


class TestNewDesk(unittest.TestCase):
    def test_fields(self):
        store = store_of((0, 0, 0), (1, 1, 1))
        store.heap.write("a", 0, None)
        desk = Desk(RULED, Books(indexes=IndexBook.of_world(RULED)), store)
        self.assertIsInstance(desk.main, Main)
        self.assertIsInstance(desk.log, Log)
        self.assertIsInstance(desk.sessions, Sessions)
        self.assertEqual((desk.events, list(desk), len(desk), len(desk.copies)), ([], [], 0, 2))
        for heap in [desk.main.shelf.heap] + [copy.heap for copy in desk.copies]:
            self.assertEqual((heap.pairs("a"), heap.fresh), ([(1, (1, 1, 1))], 2))
            self.assertIsNot(heap, store.heap)
        for copy in desk.copies:
            self.assertIsInstance(copy.follower, Follower)
            self.assertIs(copy.follower.log, desk.log)
            self.assertIs(copy.follower.heap, copy.heap)
            self.assertIs(copy.shelf.heap, copy.heap)
            self.assertEqual(copy.entries.listed("p"), [(1, 1)])

    def test_the_start_stays_as_it_is(self):
        store = store_of((0, 0, 0))
        desk = Desk(RULED, Books(), store)
        desk.run(("do", 0, ("remove", "a", ALWAYS)), ("end", 0), ("follow", 0), put(0, (1, 1, 1)))
        self.assertEqual((store.heap.pairs("a"), store.heap.fresh), ([(0, (0, 0, 0))], 1))
        # What happens to the start later does not reach the desk.
        store.heap.put("a", (2, 2, 2))
        self.assertEqual(desk.copies[1].heap.bag("a"), [(0, 0, 0)])


class TestTells(unittest.TestCase):
    def test_statements_ends_and_backs(self):
        desk = desk_of((0, 0, 0))
        tells = desk.run(put(0, (1, 1, 1)), ("do", 0, COUNT), ("end", 0), ("end", 0), put(1, (1, 2, 2)), ("back", 1),
                         ("back", 1), ("do", 1, COUNT))
        self.assertEqual(tells, [("put", (1, 1, 1)), ("count", 2), ("ended",), ("idle",), ("refused", "duplicate", "p"),
                                 ("undone",), ("idle",), ("count", 2)])
        self.assertEqual(desk.main.position, 1)

    def test_followers(self):
        desk = desk_of(log=LogBook(confirm="behind", cut="least"))
        turns = [("follow", 0), put(0, (0, 0, 0)), ("end", 0), ("follow", 0), ("follow", 0), ("confirm", 1),
                 ("confirm", 0)]
        self.assertEqual(desk.run(*turns)[3:], [("followed",), ("nothing",), ("confirmed", 0), ("confirmed", 1)])
        turns = [put(0, (1, 1, 1)), ("end", 0), ("follow", 0), ("stop", 0), ("stop", 1), ("cut",)]
        self.assertEqual(desk.run(*turns)[2:], [("followed",), ("stopped", 1), ("stopped", 0), ("cut", 0)])
        self.assertEqual(desk.run(("follow", 1), ("confirm", 1), ("cut",)),
                         [("followed",), ("confirmed", 1), ("cut", 1)])

    def test_a_cut_is_told_both_places(self):
        desk = desk_of(log=LogBook(cut="greatest"))
        desk.run(put(0, (0, 0, 0)), ("end", 0), ("follow", 1))
        self.assertEqual(desk(("cut",)), ("cut", 1))
        desk = desk_of(log=LogBook(cut="least"))
        desk.run(put(0, (0, 0, 0)), ("end", 0), ("follow", 1))
        self.assertEqual(desk(("cut",)), ("cut", 0))
        self.assertEqual(desk_of()(("cut",)), ("cut", 0))

    def test_locks(self):
        desk = desk_of(locks=LockBook(clash="wait"))
        self.assertEqual(desk.run(put(0, (0, 0, 0)), put(1, (1, 1, 1)), ("end", 1)),
                         [("put", (0, 0, 0)), ("waits",), ("idle",)])
        desk = desk_of(locks=LockBook(clash="back"))
        self.assertEqual(desk.run(put(0, (0, 0, 0)), put(1, (1, 1, 1))), [("put", (0, 0, 0)), ("back",)])


class TestEvents(unittest.TestCase):
    def test_each_turn_has_one(self):
        desk = desk_of((0, 0, 0))
        turns = [put(0, (1, 1, 1)), ("end", 0), ("follow", 0), ("confirm", 0), ("stop", 1), ("cut",), ("back", 2),
                 ("ask", 1, 0, COUNT)]
        tells = desk.run(*turns)
        self.assertEqual(len(desk), 8)
        self.assertEqual([event.turn for event in desk], turns)
        self.assertEqual([event.told for event in desk.events], tells)
        nothing = (None, TABLE, None, None, (), ())
        self.assertEqual([fields(event) for event in desk][1:7], [nothing] * 6)
        self.assertEqual(fields(desk.events[0]), (None, TABLE, 0, None, (), ()))
        self.assertEqual(fields(desk.events[7]), (None, TABLE, None, 1, (), ()))

    def test_roads_and_looks(self):
        index = IndexBook(Index("p", "a", 0, ALWAYS, "p"))
        desk = desk_of((0, 0, 0), (1, 1, 1), indexes=index, looks=LookBook(tells=True))
        question = ("count", "a", ("equal", 0, 1), "p")
        desk.run(("do", 0, question), ("do", 0, COUNT), ("ask", 1, 0, question), ("ask", 2, 1, COUNT))
        road = ("index", "p", (1,))
        self.assertEqual([(event.looks, event.road) for event in desk], [(1, road), (2, TABLE), (1, road), (2, TABLE)])

    def test_a_statement_that_is_not_carried_out(self):
        index = IndexBook(Index("p", "a", 0, ALWAYS, "p"))
        question = ("count", "a", ("equal", 0, 1), "p")
        for clash in ("wait", "back"):
            desk = desk_of(indexes=index, locks=LockBook(clash=clash), looks=LookBook(tells=True))
            desk.run(put(0, (0, 0, 0)), ("do", 1, question))
            self.assertEqual(fields(desk.events[1]), (None, ("index", "p", (1,)), None, None, (), ()))

    def test_scripts(self):
        desk = desk_of(locks=LockBook(read="rows", write="row"))
        desk.run(put(1, (1, 1, 1)), put(0, (0, 0, 0)), ("end", 1), put(1, (1, 2, 2)))
        self.assertEqual([event.script for event in desk], [0, 1, None, 2])

    def test_a_ring(self):
        desk = desk_of(locks=LockBook(read="table", write="table"))
        tells = desk.run(put(1, (0, 0, 0)), put(2, (0, 0, 0), "b"), put(1, (0, 0, 0), "b"), put(2, (1, 1, 1)))
        self.assertEqual(tells[2:], [("waits",), ("waits",)])
        self.assertEqual([event.ring for event in desk], [(), (), (), (1, 2)])
        # Another user waits while the ring is there; one that does not wait is told of none.
        desk.run(put(0, (2, 2, 2)), ("follow", 0), ("back", 1))
        self.assertEqual([event.ring for event in desk.events[4:]], [(1, 2), (), ()])

    def test_what_does_not_wait_is_told_of_no_ring(self):
        world = World(["a", "b", "c"])
        desk = Desk(world, Books(locks=LockBook(read="table", write="table")), Store(world))
        desk.run(put(1, (0, 0, 0)), put(2, (0, 0, 0), "b"), put(1, (0, 0, 0), "b"), put(2, (1, 1, 1)),
                 put(0, (0, 0, 0), "c"))
        self.assertEqual([event.ring for event in desk.events[3:]], [(1, 2), ()])
        self.assertEqual(desk.main.table.ring(), (1, 2))

    def test_broken_promises(self):
        desk = desk_of(copies=CopyBook(served=True, promises=("own", "seen", "main")))
        desk.run(put(0, (0, 0, 0)), ("end", 0), ("ask", 0, 0, COUNT), ("ask", 1, 0, COUNT), ("follow", 1),
                 ("ask", 1, 1, COUNT), ("ask", 1, 0, COUNT))
        self.assertEqual([event.broken for event in desk], [(), (), ("own", "main"), (), (), (), ("seen",)])
        self.assertEqual([event.position for event in desk], [None, None, 0, 0, None, 1, 0])


class TestAsk(unittest.TestCase):
    def test_closed_and_late(self):
        desk = desk_of(copies=CopyBook())
        self.assertEqual(desk(("ask", 0, 0, COUNT)), ("closed",))
        desk = desk_of(copies=CopyBook(marks=("own",)))
        desk.run(put(0, (0, 0, 0)), ("end", 0))
        self.assertEqual(desk(("ask", 0, 0, COUNT)), ("closed",))
        desk = desk_of(copies=CopyBook(served=True, marks=("own",), promises=("own",)), looks=LookBook(tells=True))
        desk.run(put(0, (0, 0, 0)), ("end", 0))
        self.assertEqual(desk(("ask", 0, 0, COUNT)), ("late",))
        self.assertEqual(fields(desk.events[-1]), (None, TABLE, None, None, (), ()))
        self.assertEqual(desk.sessions.mark(0, "seen"), 0)
        self.assertEqual(desk.run(("follow", 0), ("ask", 0, 0, COUNT)), [("followed",), ("count", 1)])
        self.assertEqual((desk.sessions.mark(0, "seen"), desk.events[-1].looks), (1, 1))

    def test_the_road_of_what_is_not_answered(self):
        index = IndexBook(Index("p", "a", 0, ALWAYS, "p"))
        desk = desk_of(copies=CopyBook(), indexes=index)
        desk(("ask", 0, 0, ("count", "a", ALWAYS, "p")))
        self.assertEqual(desk.events[0].road, TABLE)

    def test_refusals_are_told(self):
        desk = desk_of((0, 0, 0), copies=CopyBook(served=True, promises=("own",)), looks=LookBook(tells=True))
        question = ("count", "a", ("quotient", 1, 0, 1), "")
        desk.run(put(1, (1, 1, 1)), ("end", 1))
        self.assertEqual(desk(("ask", 1, 0, question)), ("refused", "zero"))
        # It is an answer all the same.
        self.assertEqual(fields(desk.events[-1]), (None, TABLE, None, 0, ("own",), ()))

    def test_sessions_are_told_of_ends(self):
        desk = desk_of()
        desk.run(put(0, (0, 0, 0)), ("end", 0), ("do", 1, COUNT), ("end", 1), put(2, (2, 2, 2)), ("back", 2),
                 ("end", 2))
        words = ("own", "seen", "main")
        self.assertEqual([[desk.sessions.mark(user, word) for word in words] for user in range(3)],
                         [[1, 0, 1], [0, 0, 1], [0, 0, 0]])
        desk.run(put(1, (1, 1, 1)), ("end", 1))
        self.assertEqual([desk.sessions.mark(1, word) for word in words], [2, 0, 2])

    def test_the_copy_that_is_asked(self):
        desk = desk_of()
        desk.run(put(0, (0, 0, 0)), ("end", 0), ("follow", 1))
        self.assertEqual(desk.run(("ask", 0, 0, COUNT), ("ask", 0, 1, COUNT)), [("count", 0), ("count", 1)])

    def test_positions(self):
        desk = desk_of(log=LogBook(confirm="ahead"))
        desk.run(put(0, (0, 0, 0)), ("end", 0), ("follow", 0), ("ask", 0, 0, COUNT), ("follow", 0),
                 ("ask", 0, 0, COUNT))
        self.assertEqual([event.position for event in desk][3::2], [0, 1])

    def test_behind_a_cut(self):
        desk = desk_of(log=LogBook(cut="greatest"))
        turns = [put(0, (0, 0, 0)), ("end", 0), put(0, (1, 1, 1)), ("end", 0), ("follow", 0), ("cut",), ("follow", 1)]
        self.assertEqual(desk.run(*turns)[-2:], [("cut", 1), ("followed",)])
        self.assertEqual(desk(("ask", 0, 1, ("rows", "a", ALWAYS, ""))), ("rows", ((1, 1, 1),)))
        # Both scripts lie before the place that it reads next.
        self.assertEqual(desk.events[-1].position, 2)

    def test_what_is_hidden(self):
        hiding = HidingBook((1, "a", ("equal", 0, 0)), told="all")
        for hides, told in ((True, ("count", 1)), (False, ("count", 2))):
            desk = desk_of((0, 0, 0), (1, 1, 1), hiding=hiding, copies=CopyBook(served=True, hides=hides),
                           looks=LookBook(tells=True))
            self.assertEqual(desk(("ask", 1, 0, COUNT)), told)
            self.assertEqual(desk.events[0].looks, 2)
            self.assertEqual(desk(("do", 1, COUNT)), ("count", 1))
        desk = desk_of((0, 0, 0), hiding=HidingBook((1, "a", ("unknown", 0)), first="ask"),
                       copies=CopyBook(served=True, hides=False))
        self.assertEqual(desk(("ask", 1, 0, ("count", "a", ("equal", 0, 0), ""))), ("count", 1))

    def test_what_is_hidden_decides_on_the_road(self):
        hiding = HidingBook((1, "a", ("equal", 0, 0)))
        summaries = SummaryBook(Summary("s", "a", "count", 0, ALWAYS))
        for hides, road in ((True, TABLE), (False, ("summary", "s"))):
            desk = desk_of(hiding=hiding, summaries=summaries, copies=CopyBook(served=True, hides=hides))
            desk(("ask", 1, 0, ("count", "a", ALWAYS, "s")))
            self.assertEqual(desk.events[0].road, road)

    def test_the_entries_of_the_start(self):
        index = IndexBook(Index("p", "a", 0, ALWAYS, "p"))
        question = ("rows", "a", ALWAYS, "p")
        turns = [("do", 0, ("remove", "a", ("equal", 0, 0))), ("do", 0, ("change", "a", ALWAYS, 0, 2)),
                 put(0, (1, 2, 2)),
                 ("end", 0), ("follow", 0)]
        for words, told in (("own", ("rows", ((1, 2, 2), (2, 1, 1)))), ("start", ("rows", ((2, 1, 1),)))):
            desk = desk_of((0, 0, 0), (1, 1, 1), indexes=index, copies=CopyBook(served=True, indexes=words))
            desk.run(*turns)
            self.assertEqual(desk(("ask", 0, 0, question)), told)
            # The follower keeps the copy's own entries up to date.
            self.assertEqual(desk.copies[0].entries.listed("p"), [(1, 2), (2, 1)])

    def test_the_totals_of_the_main_store(self):
        summaries = SummaryBook(Summary("s", "a", "count", 0, ALWAYS))
        question = ("count", "a", ALWAYS, "s")
        for words, told in (("own", ("count", 1)), ("main", ("count", 2))):
            desk = desk_of((0, 0, 0), summaries=summaries, copies=CopyBook(served=True, summaries=words))
            desk(put(0, (1, 1, 1)))
            self.assertEqual(desk(("ask", 1, 1, question)), told)
            desk.run(("end", 0), ("follow", 1))
            self.assertEqual(desk.copies[1].totals.current("s"), 2)
            self.assertEqual(desk.copies[0].totals.current("s"), 1)

    def test_an_open_total_of_the_main_store_is_settled_there(self):
        summaries = SummaryBook(Summary("s", "a", "greatest", 0, ALWAYS), greatest="question")
        desk = desk_of((2, 0, 0), (1, 1, 1), (0, 2, 2), summaries=summaries, looks=LookBook(tells=True),
                       copies=CopyBook(served=True, summaries="main"))
        desk(("do", 0, ("remove", "a", ("equal", 0, 2))))
        question = summaries.summaries[0].question()
        self.assertEqual(desk(("ask", 1, 0, question)), ("greatest", 1))
        # The rows that are looked at are those of the copy.
        self.assertEqual(desk.events[-1].looks, 3)
        self.assertFalse(desk.main.shelf.totals.is_open("s"))


class TestLogged(unittest.TestCase):
    def test_totals_that_are_logged(self):
        summaries = SummaryBook(Summary("many", "a", "count", 0, ALWAYS), Summary("top", "a", "greatest", 0, ALWAYS))
        for kept in ("own", "logged"):
            desk = desk_of(log=LogBook(kept=kept, confirm="behind"), summaries=summaries)
            desk.run(put(0, (2, 0, 0)), ("end", 0), ("follow", 0))
            copy = desk.copies[0]
            self.assertEqual((copy.totals.current("many"), copy.totals.current("top")), (1, 2))
            desk.run(("stop", 0), ("follow", 0))
            # What is logged is added once more; the copy's own totals see that the row was there already.
            self.assertEqual((copy.totals.current("many"), copy.totals.current("top")),
                             (2 if kept == "logged" else 1, 2))


class TestWrongTurns(unittest.TestCase):
    def test_one_turn(self):
        for wrong in NO_TURNS:
            desk = desk_of()
            for at in range(2):
                with self.assertRaises(InvalidTurn, msg=wrong) as caught:
                    desk(wrong)
                self.assertEqual((caught.exception.at, len(desk)), (at, at))
                desk(put(0, (at, 0, 0)))

    def test_a_wrong_statement_is_the_cause(self):
        desk = desk_of()
        with self.assertRaises(InvalidTurn) as caught:
            desk(put(0, (0, 0, 0), "zz"))
        self.assertIsInstance(caught.exception.__cause__, UnknownTable)
        with self.assertRaises(InvalidTurn) as caught:
            desk(("ask", 0, 0, ("put", "a", (0, 0, 0))))
        self.assertIsNone(caught.exception.__cause__)
        self.assertEqual((len(desk), len(desk.main.shelf.heap)), (0, 0))

    def test_in_a_run_none_is_carried_out(self):
        good = [put(0, (1, 1, 1)), ("end", 0), ("follow", 0), ("ask", 0, 0, COUNT)]
        for wrong in NO_TURNS + [put(0, (0, 0, 0), "zz"), ("ask", 0, 0, ("put", "a", (0, 0, 0)))]:
            for at in range(len(good) + 1):
                desk = desk_of()
                desk(put(1, (0, 0, 0), "b"))
                turns = good[:at] + [wrong] + good[at:]
                with self.assertRaises(InvalidTurn, msg=wrong) as caught:
                    desk.run(*turns)
                self.assertEqual(caught.exception.at, 1 + at)
                self.assertEqual((len(desk), len(desk.main.shelf.heap), desk.main.position), (1, 1, 0))
        self.assertEqual(desk_of().run(), [])
