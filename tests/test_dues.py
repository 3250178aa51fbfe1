import unittest

from bookstogether.bookshelf import PARTS, Books
from bookstogether.copybooks import CopyBook
from bookstogether.desks import Desk
from bookstogether.dues import desk_faults, story_faults
from bookstogether.errors import InvalidTurn
from bookstogether.hidingbooks import HidingBook
from bookstogether.indexbooks import Index, IndexBook
from bookstogether.judging import judge
from bookstogether.lockbooks import LockBook
from bookstogether.logbooks import LogBook
from bookstogether.lookbooks import LookBook
from bookstogether.stores import Store
from bookstogether.summarybooks import Summary, SummaryBook
from bookstogether.worlds import World

from tests.bookmaker import some_books, some_start, some_story, some_world
from tests.samples import ALWAYS, NEVER, chances

BARE = World(["a", "b"])
COUNT = ("count", "a", ALWAYS, "")


def put(user, row=(0, 0, 0), table="a"):
    return ("do", user, ("put", table, row))


def count(user):
    return ("do", user, COUNT)


def faults(*turns, rows=(), world=BARE, **books):
    """The faults of a story on a start with these rows of table a, and the desk that shows them."""
    made = Books(**{"copies": CopyBook(served=True), **books})
    store = Store(world, made.hiding.sight)
    for row in rows:
        store.load("a", row)
    desk = Desk(world, made, store)
    desk.run(*turns)
    found = desk_faults(desk)
    assert found == story_faults(world, made, store, turns)
    # A desk that is looked at once more tells the same.
    assert found == desk_faults(desk)
    return found


LOOSE = LockBook(lasts="turn")


class TestPaper(unittest.TestCase):
    def test_no_turns(self):
        self.assertEqual(faults(), [])
        self.assertEqual(faults(rows=[(0, 0, 0)], indexes=IndexBook(Index("i", "a", 0, ALWAYS))), [])

    def test_finished_scripts_come_first(self):
        # Without locks that last, user 0 sees what user 1 has not ended yet.
        self.assertEqual(faults(put(1), count(0), locks=LOOSE), [(1, "answer")])
        self.assertEqual(faults(put(1), count(0), ("end", 0), locks=LOOSE), [(1, "answer")])
        self.assertEqual(faults(put(1), count(0), ("end", 1), locks=LOOSE), [])
        self.assertEqual(faults(put(1), count(0), ("end", 1), ("end", 0), locks=LOOSE), [])

    def test_open_scripts_come_by_users(self):
        self.assertEqual(faults(put(0), count(1), locks=LOOSE), [])
        self.assertEqual(faults(put(2), count(1), locks=LOOSE), [(1, "answer")])

    def test_a_script_that_is_taken_back_is_undone_at_its_end(self):
        self.assertEqual(faults(put(0), count(0), ("back", 0), count(0), locks=LOOSE), [])
        self.assertEqual(faults(put(0), count(1), ("back", 0), locks=LOOSE), [(1, "answer")])
        # Script 0 was taken back first, though script 1 wrote before that.
        self.assertEqual(faults(put(0), put(1), count(0), ("back", 0), locks=LOOSE), [(2, "answer")])

    def test_open_scripts_are_not_undone(self):
        self.assertEqual(faults(put(0), count(0), put(1), count(1), locks=LOOSE), [])

    def test_statements_that_waited_are_not_run(self):
        self.assertEqual(faults(put(0), put(1), ("end", 0), count(0)), [])
        self.assertEqual(faults(put(0), put(1), count(0), locks=LockBook(clash="back")), [])

    def test_refused_statements(self):
        world = World(["a", "b"], [("p", "a", 0, ALWAYS)])
        self.assertEqual(faults(put(0), put(1), ("end", 0), world=world, locks=LOOSE), [])
        self.assertEqual(faults(put(0), put(1), ("end", 1), world=world, locks=LOOSE), [(0, "answer"), (1, "answer")])

    def test_what_the_user_is_shown(self):
        hiding = HidingBook((1, "a", ("unknown", 0)))
        self.assertEqual(faults(count(1), count(0), rows=[(0, 0, 0)], hiding=hiding, locks=LOOSE), [])
        ask = HidingBook((1, "a", ("unknown", 0)), first="ask")
        question = ("count", "a", ("quotient", 1, 0, 0), "")
        self.assertEqual(faults(("do", 1, question), rows=[(0, 0, 0)], hiding=ask), [(0, "answer")])


class TestCopies(unittest.TestCase):
    ASK = ("ask", 1, 0, COUNT)

    def test_answers_are_those_of_the_state_at_the_position(self):
        turns = [put(0), ("end", 0), self.ASK, ("follow", 0), self.ASK, put(0), self.ASK, ("end", 0), self.ASK,
                 ("follow", 0), self.ASK]
        self.assertEqual(faults(*turns), [])

    def test_a_state_behind_each_ended_script_that_wrote(self):
        turns = [count(0), ("end", 0), put(1), ("back", 1), put(0), ("end", 0), ("follow", 0), self.ASK]
        self.assertEqual(faults(*turns), [])
        # With `write` the copy reads first what the script wrote that was taken back.
        self.assertEqual(faults(*turns, log=LogBook(when="write")), [(7, "answer")])

    def test_units_of_a_script_that_has_not_ended(self):
        turns = [put(0), ("follow", 0), self.ASK]
        self.assertEqual(faults(*turns, log=LogBook(when="write")), [(2, "answer")])
        self.assertEqual(faults(*turns, ("end", 0), log=LogBook(when="write")), [(2, "answer")])

    def test_what_the_user_is_shown(self):
        hiding = HidingBook((1, "a", ("unknown", 0)))
        for hides, found in ((True, []), (False, [(0, "answer")])):
            copies = CopyBook(served=True, hides=hides)
            self.assertEqual(faults(self.ASK, rows=[(0, 0, 0)], hiding=hiding, copies=copies), found)

    def test_refusals(self):
        question = ("ask", 1, 0, ("count", "a", ("quotient", 1, 0, 0), ""))
        self.assertEqual(faults(question, rows=[(0, 0, 0)]), [])
        hiding = HidingBook((1, "a", ("unknown", 0)))
        self.assertEqual(faults(question, rows=[(0, 0, 0)], hiding=hiding), [])
        self.assertEqual(faults(question, rows=[(0, 0, 0)], hiding=hiding, copies=CopyBook(served=True, hides=False)),
                         [(0, "answer")])

    def test_closed_and_late_answers_are_no_faults(self):
        turns = [put(1), ("end", 1), self.ASK]
        self.assertEqual(faults(*turns, copies=CopyBook()), [])
        self.assertEqual(faults(*turns, copies=CopyBook(served=True, marks=("own",), promises=("own",))), [])

    def test_broken_promises(self):
        turns = [put(1), ("end", 1), self.ASK]
        self.assertEqual(faults(*turns, copies=CopyBook(served=True, promises=("own", "main"))), [(2, "session")])
        self.assertEqual(faults(*turns, copies=CopyBook(served=True, promises=("seen",))), [])


class TestLooks(unittest.TestCase):
    LOOKS = LookBook(("i", 1), tells=True)
    INDEX = IndexBook(Index("i", "a", 0, ("below", 0, 2)))

    def test_the_rows_on_the_road(self):
        rows = [(0, 0, 0), (1, 1, 1), (2, 2, 2)]
        by_index = ("do", 0, ("count", "a", ("equal", 0, 1), "i"))
        self.assertEqual(faults(count(0), by_index, rows=rows, looks=self.LOOKS, indexes=self.INDEX), [])
        self.assertEqual(faults(("do", 0, ("count", "a", NEVER, "")), rows=rows,
                                looks=LookBook(tells=True, counts="found")), [(0, "looks")])

    def test_the_moment_at_which_the_paper_runs_the_question(self):
        looks = LookBook(tells=True)
        never = ("do", 0, ("count", "a", NEVER, ""))
        self.assertEqual(faults(put(1), never, locks=LOOSE, looks=looks), [(1, "looks")])
        self.assertEqual(faults(put(1), never, ("end", 1), locks=LOOSE, looks=looks), [])
        self.assertEqual(faults(put(0), never, put(0), never, looks=looks), [])
        self.assertEqual(faults(put(1), count(0), locks=LOOSE, looks=looks), [(1, "answer"), (1, "looks")])

    def test_claims(self):
        rows = [(0, 0, 0), (0, 1, 1)]
        one, both = ("count", "a", ("equal", 0, 0), "i"), ("count", "a", ("below", 0, 2), "i")
        told = {"looks": self.LOOKS, "indexes": self.INDEX}
        self.assertEqual(faults(("do", 0, one), ("do", 0, both), rows=rows, **told), [(0, "looks")])
        self.assertEqual(faults(("ask", 0, 0, one), ("ask", 0, 1, both), rows=rows, **told), [(0, "looks")])
        self.assertEqual(faults(("do", 0, one), rows=rows[:1], **told), [])
        # By the table, or without looks that are told, no claim is broken.
        self.assertEqual(faults(("do", 0, one), rows=rows, looks=self.LOOKS), [])
        self.assertEqual(faults(("do", 0, one), rows=rows, looks=LookBook(("i", 1)), indexes=self.INDEX), [])

    def test_hidden_rows(self):
        for told, found in (("shown", []), ("all", [(0, "looks"), (1, "looks"), (2, "looks")])):
            hiding = HidingBook((1, "a", ("equal", 1, 1)), told=told)
            by_index = ("count", "a", ("below", 0, 2), "i")
            turns = [("do", 1, COUNT), ("do", 1, by_index), ("ask", 1, 0, by_index)]
            rows = [(0, 0, 0), (1, 1, 1)]
            self.assertEqual(faults(*turns, rows=rows, hiding=hiding, looks=LookBook(tells=True), indexes=self.INDEX),
                             found)

    def test_a_summary_has_no_rows_on_its_road(self):
        summaries = SummaryBook(Summary("s", "a", "greatest", 0, ALWAYS), greatest="question")
        gone = ("do", 0, ("remove", "a", ("equal", 0, 2)))
        asked = ("do", 0, summaries.summaries[0].question())
        rows = [(2, 2, 2), (1, 1, 1)]
        self.assertEqual(faults(asked, gone, rows=rows, summaries=summaries, looks=LookBook(tells=True)), [])
        self.assertEqual(faults(gone, asked, asked, rows=rows, summaries=summaries, looks=LookBook(tells=True)),
                         [(1, "looks")])
        # The copies settle their own values.
        turns = [gone, ("end", 0), ("follow", 1), ("ask", 0, 1, asked[2]), ("ask", 0, 1, asked[2])]
        self.assertEqual(faults(*turns, rows=rows, summaries=summaries, looks=LookBook(tells=True)), [(3, "looks")])

    def test_looks_at_a_copy_are_those_of_its_state(self):
        ask = ("ask", 1, 0, ("count", "a", NEVER, ""))
        looks = LookBook(tells=True)
        self.assertEqual(faults(put(0), ("end", 0), ask, ("follow", 0), ask, looks=looks), [])
        self.assertEqual(faults(put(0), ("follow", 0), ask, looks=looks, log=LogBook(when="write")), [(2, "looks")])


class TestRings(unittest.TestCase):
    def test_a_ring_is_told_with_each_waiting(self):
        locks = LockBook(read="table", write="table")
        turns = [count(0), count(1), put(0), put(1), count(2), put(0)]
        self.assertEqual(faults(*turns, locks=locks), [(3, "ring"), (5, "ring")])
        self.assertEqual(faults(*turns[:3], locks=locks), [])


class TestFollowers(unittest.TestCase):
    def test_copies_with_other_rows(self):
        steps = [put(0), ("end", 0), ("follow", 0), ("stop", 0)]
        self.assertEqual(faults(*steps, log=LogBook(confirm="ahead")), [(4, "follower")])
        self.assertEqual(faults(*steps[:3], log=LogBook(confirm="ahead")), [])
        statement = LogBook(what="statement", confirm="behind")
        self.assertEqual(faults(*steps, ("follow", 1), ("stop", 1), log=statement), [(6, "follower"), (6, "follower")])
        self.assertEqual(faults(*steps, log=LogBook(confirm="behind")), [])

    def test_an_open_script_keeps_copies_from_catching_up(self):
        steps = [put(0), ("end", 0), ("follow", 0), ("stop", 0), count(1)]
        self.assertEqual(faults(*steps, log=LogBook(confirm="ahead")), [])
        self.assertEqual(faults(*steps, ("end", 1), log=LogBook(confirm="ahead")), [(6, "follower")])
        desk = Desk(BARE, Books(), Store(BARE))
        desk.run(put(0), ("end", 0), count(1))
        self.assertEqual((desk_faults(desk), desk.copies[0].follower.read), ([], 0))
        desk(("end", 1))
        self.assertEqual((desk_faults(desk), [copy.follower.read for copy in desk.copies]), ([], [1, 1]))

    def test_entries_that_are_not_due(self):
        indexes = IndexBook(Index("i", "a", 0, ("equal", 2, 1)), writes="column")
        change = ("do", 0, ("change", "a", ALWAYS, 2, 1))
        self.assertEqual(faults(change, ("end", 0), rows=[(0, 0, 0)], indexes=indexes), [(2, "follower")] * 2)
        self.assertEqual(faults(change, rows=[(0, 0, 0)], indexes=indexes), [])

    def test_entries_of_the_start_are_no_entries_of_the_copy(self):
        indexes = IndexBook(Index("i", "a", 0, ALWAYS))
        copies = CopyBook(served=True, indexes="start")
        self.assertEqual(faults(put(0), ("end", 0), indexes=indexes, copies=copies), [])

    def test_values_that_are_not_due(self):
        summary = Summary("s", "a", "greatest", 0, ALWAYS)
        gone = [("do", 0, ("remove", "a", ALWAYS)), ("end", 0)]
        rows = [(0, 0, 0)]
        self.assertEqual(faults(*gone, rows=rows, summaries=SummaryBook(summary, greatest="stays")),
                         [(2, "follower")] * 2)
        # A summary that is open need not have the value that is due.
        self.assertEqual(faults(*gone, rows=rows, summaries=SummaryBook(summary, greatest="question")), [])
        self.assertEqual(faults(*gone, rows=rows, summaries=SummaryBook(summary)), [])

    def test_logged_values_that_are_added_twice(self):
        summaries = SummaryBook(Summary("s", "a", "count", 0, ALWAYS))
        log = LogBook(kept="logged", confirm="behind")
        steps = [put(0), ("end", 0), ("follow", 1), ("stop", 1)]
        self.assertEqual(faults(*steps, summaries=summaries, log=log), [(4, "follower")])


class TestFaults(unittest.TestCase):
    def test_they_are_ascending(self):
        locks = LockBook(lasts="turn", clash="wait")
        looks = LookBook(tells=True)
        copies = CopyBook(served=True, promises=("own",))
        turns = [put(1), count(0), ("end", 0), ("end", 1), ("ask", 1, 0, COUNT), ("follow", 0), ("stop", 0)]
        told = faults(*turns, locks=locks, looks=looks, copies=copies, log=LogBook(confirm="ahead"))
        self.assertEqual(told, [(1, "answer"), (1, "looks"), (4, "session"), (7, "follower")])

    def test_a_wrong_story(self):
        with self.assertRaises(InvalidTurn) as caught:
            story_faults(BARE, Books(), Store(BARE), (put(0), ("cut",), ("end", 3)))
        self.assertEqual(caught.exception.at, 2)

    def test_the_store_stays_as_it_is(self):
        store = Store(BARE)
        story_faults(BARE, Books(), store, [put(0), ("end", 0)])
        self.assertEqual((len(store), store.heap.fresh), (0, 0))

    def test_right_books_have_none(self):
        runs = 0
        for chance in chances(120, "right together"):
            world = some_world(chance)
            books = some_books(chance, world)
            wrong = [part for parts, _ in judge(world, books) for part in parts]
            good = books.only(*[part for part in PARTS if part not in wrong])
            self.assertTrue(judge(world, good).right)
            start = some_start(chance, world, good)
            self.assertEqual(story_faults(world, good, start, some_story(chance, world, good, 30)), [])
            runs += len(wrong) < 12
        self.assertGreater(runs, 20)

    def test_two_books_that_meet_cleanly_have_none(self):
        for chance in chances(80, "meet cleanly"):
            world = some_world(chance)
            books = some_books(chance, world)
            verdict = judge(world, books)
            right = [part for part in PARTS if verdict.found_in(part) == ()]
            for at, first in enumerate(right):
                for second in right[at + 1:]:
                    if verdict.found_in(first, second) == () and chance.randrange(3) == 0:
                        good = books.only(first, second)
                        start = some_start(chance, world, good)
                        self.assertEqual(story_faults(world, good, start, some_story(chance, world, good, 20)), [])
