import unittest

from bookstogether.entries import Entries, due_entries
from bookstogether.followers import Follower, apply_unit
from bookstogether.heaps import Heap
from bookstogether.indexbooks import Index, IndexBook
from bookstogether.logbooks import LogBook
from bookstogether.logs import Log
from bookstogether.running import everyone, run_plainly
from bookstogether.summarybooks import Summary, SummaryBook
from bookstogether.totals import GreatestOnly, Totals

from tests.samples import ALWAYS, WORLD, chances, random_statement, random_world

PUT = ("put", "a", (1, 1, None))


class Keeper:
    """It remembers what it is told, and how many rows the heap has then."""

    def __init__(self, heap, name="", told=None):
        self.heap = heap
        self.name = name
        self.told = [] if told is None else told

    def write(self, table, number, old, new):
        self.told.append((self.name, table, number, old, new, len(self.heap)))


class Adder:
    def __init__(self):
        self.told = []

    def add(self, name, difference):
        self.told.append((name, difference))


def heap_of(*rows):
    heap = Heap()
    for row in rows:
        heap.put("a", row)
    return heap


class TestApplyUnit(unittest.TestCase):
    def test_row_parts(self):
        heap = heap_of((0, 0, 0), (1, 1, 1))
        keeper = Keeper(heap)
        parts = (
            ("row", "a", 0, None), ("row", "a", 1, (1, 1, 2)), ("row", "b", 9, (2, 2, 2)), ("row", "a", 5, None),
            ("row", "a", 1, (1, 1, 2)),
        )
        self.assertIsNone(apply_unit(WORLD, heap, (3, parts), keepers=[keeper]))
        self.assertEqual([heap[number] for number in sorted(heap)], [("a", (1, 1, 2)), ("b", (2, 2, 2))])
        self.assertEqual(heap.fresh, 10)
        self.assertEqual([told[1:] for told in keeper.told], [
            ("a", 0, (0, 0, 0), None, 1), ("a", 1, (1, 1, 1), (1, 1, 2), 1), ("b", 9, None, (2, 2, 2), 2),
            ("a", 1, (1, 1, 2), (1, 1, 2), 2),
        ])

    def test_a_row_that_is_not_there_stays_away_without_a_write(self):
        heap = Heap()
        keeper = Keeper(heap)
        apply_unit(WORLD, heap, (0, (("row", "a", 4, None),)), keepers=(keeper,))
        self.assertEqual((len(heap), heap.fresh, keeper.told), (0, 0, []))

    def test_a_statement_part(self):
        heap = heap_of((0, 0, 0), (1, 1, 1), (2, 2, 2))
        keeper = Keeper(heap)
        unit = (0, (("statement", ("remove", "a", ("below", 0, 2))), ("statement", PUT)))
        apply_unit(WORLD, heap, unit, keepers=[keeper])
        self.assertEqual(heap.pairs("a"), [(2, (2, 2, 2)), (3, (1, 1, None))])
        # All writes of the part are in the heap when the first one is told.
        self.assertEqual([told[1:] for told in keeper.told], [
            ("a", 0, (0, 0, 0), None, 1), ("a", 1, (1, 1, 1), None, 1), ("a", 3, None, (1, 1, None), 2),
        ])

    def test_a_refused_statement_changes_nothing(self):
        heap = heap_of((1, 1, None), (2, 0, 0))
        keeper = Keeper(heap)
        refused = ("change", "a", ALWAYS, 0, 2)
        apply_unit(WORLD, heap, (0, (("statement", PUT), ("statement", refused))), keepers=[keeper])
        self.assertEqual(heap.pairs("a"), [(0, (1, 1, None)), (1, (2, 0, 0))])
        self.assertEqual(keeper.told, [])

    def test_the_keepers_in_order_for_each_write(self):
        heap = heap_of((0, 0, 0), (1, 1, 1))
        told = []
        keepers = [Keeper(heap, name, told) for name in ("x", "y")]
        apply_unit(WORLD, heap, (0, (("statement", ("remove", "a", ALWAYS)),)), keepers=keepers)
        self.assertEqual([(one[0], one[2]) for one in told], [("x", 0), ("y", 0), ("x", 1), ("y", 1)])

    def test_summary_parts(self):
        heap = Heap()
        adder = Adder()
        parts = (("summary", "k", 2), ("row", "a", 0, (0, 0, 0)), ("summary", "l", -1))
        apply_unit(WORLD, heap, (0, parts), totals=adder)
        self.assertEqual((adder.told, len(heap)), ([("k", 2), ("l", -1)], 1))
        # Without totals, summary parts do nothing.
        self.assertIsNone(apply_unit(WORLD, heap, (0, parts)))
        self.assertEqual(heap.pairs("a"), [(0, (0, 0, 0))])

    def test_real_totals(self):
        heap = Heap()
        book = SummaryBook(Summary("k", "a", "count", 0, ALWAYS), Summary("top", "a", "greatest", 0, ALWAYS))
        totals = Totals(book, heap)
        unit = (0, (("row", "a", 0, (2, 0, 0)), ("summary", "k", 5)))
        apply_unit(WORLD, heap, unit, totals=totals, keepers=[GreatestOnly(totals)])
        self.assertEqual((totals.current("k"), totals.current("top")), (5, 2))

    def test_a_unit_without_parts(self):
        heap = heap_of((0, 0, 0))
        self.assertIsNone(apply_unit(WORLD, heap, (0, ()), totals=Adder(), keepers=[Keeper(heap)]))
        self.assertEqual(heap.pairs("a"), [(0, (0, 0, 0))])

    def test_applied_twice(self):
        heap = Heap()
        images = (0, (("row", "a", 0, (0, 0, 0)), ("row", "a", 1, (1, 1, 1))))
        for _ in range(2):
            apply_unit(WORLD, heap, images)
        self.assertEqual((heap.pairs("a"), heap.fresh), ([(0, (0, 0, 0)), (1, (1, 1, 1))], 2))
        statements = (0, (("statement", ("put", "b", (None, None, None))),))
        for _ in range(2):
            apply_unit(WORLD, heap, statements)
        self.assertEqual(heap.bag("b"), [(None, None, None)] * 2)

    def test_great_numbers(self):
        heap = Heap()
        apply_unit(WORLD, heap, (10 ** 20, (("row", "a", 10 ** 21, (0, 0, 0)),)))
        self.assertEqual((heap.pairs("a"), heap.fresh), ([(10 ** 21, (0, 0, 0))], 10 ** 21 + 1))


class Following(unittest.TestCase):
    def logged(self, count, **options):
        """A log with so many units, each a row under the number of its place."""
        log = Log(LogBook(**options))
        for script in range(count):
            self.append(log, script)
        return log

    def append(self, log, script):
        log.begin(script)
        log.wrote(script, PUT, [(("row", "b", script, (script % 3, 0, 0)), [])])
        log.end(script)

    def follower(self, log):
        return Follower(log, WORLD, Heap(), None, [])

    def places(self, follower):
        return (follower.read, follower.confirmed, follower.applied, len(follower.heap))


class TestFollower(Following):
    def test_fields(self):
        log = self.logged(0)
        heap = Heap()
        totals = Totals(SummaryBook(), heap)
        follower = Follower(log, WORLD, heap, totals, [])
        for name, thing in (("log", log), ("world", WORLD), ("heap", heap), ("totals", totals)):
            self.assertIs(getattr(follower, name), thing)
        self.assertEqual(self.places(follower), (0, 0, 0, 0))
        self.assertIsNone(self.follower(log).totals)

    def test_with(self):
        follower = self.follower(self.logged(2))
        for places in ((1, 1, 1, 1), (2, 2, 2, 2)):
            self.assertIs(follower.follow(), True)
            self.assertEqual(self.places(follower), places)
        self.assertIs(follower.follow(), False)
        follower.stop()
        self.assertEqual(self.places(follower), (2, 2, 2, 2))
        follower.confirm()
        self.assertEqual(self.places(follower), (2, 2, 2, 2))

    def test_behind(self):
        follower = self.follower(self.logged(3, confirm="behind"))
        follower.follow()
        self.assertEqual(self.places(follower), (1, 0, 1, 1))
        self.assertIsNone(follower.confirm())
        follower.follow()
        follower.follow()
        self.assertEqual(self.places(follower), (3, 1, 3, 3))
        self.assertIsNone(follower.stop())
        self.assertEqual(self.places(follower), (1, 1, 1, 3))
        # Images may be applied twice.
        self.assertEqual(follower.catch_up(), 2)
        self.assertEqual(self.places(follower), (3, 1, 3, 3))

    def test_ahead(self):
        follower = self.follower(self.logged(2, confirm="ahead"))
        self.assertIs(follower.follow(), True)
        self.assertEqual(self.places(follower), (1, 1, 0, 0))
        self.assertIs(follower.follow(), True)
        self.assertEqual(self.places(follower), (2, 2, 1, 1))
        self.assertIs(follower.follow(), True)
        self.assertEqual(self.places(follower), (2, 2, 2, 2))
        self.assertIs(follower.follow(), False)

    def test_stopping_with_a_unit_held_loses_it(self):
        follower = self.follower(self.logged(2, confirm="ahead"))
        follower.follow()
        follower.stop()
        self.assertEqual(self.places(follower), (1, 1, 1, 0))
        self.assertEqual(follower.catch_up(), 2)
        self.assertEqual(follower.heap.numbers("b"), [1])

    def test_confirming_with_a_unit_held(self):
        follower = self.follower(self.logged(1, confirm="ahead"))
        follower.follow()
        follower.confirm()
        self.assertEqual(self.places(follower), (1, 1, 0, 0))
        follower.follow()
        self.assertEqual(self.places(follower), (1, 1, 1, 1))

    def test_catch_up(self):
        for confirm, count in (("with", 3), ("behind", 3), ("ahead", 4)):
            follower = self.follower(self.logged(3, confirm=confirm))
            self.assertEqual(follower.catch_up(), count)
            self.assertEqual(follower.heap.numbers("b"), [0, 1, 2])
            self.assertEqual(follower.catch_up(), 0)
        self.assertEqual(self.follower(self.logged(0, confirm="ahead")).catch_up(), 0)

    def test_behind_a_cut(self):
        for confirm in LogBook.CONFIRM:
            log = self.logged(4, confirm=confirm, cut="least")
            follower = self.follower(log)
            log.cut([3])
            self.assertIs(follower.follow(), True)
            self.assertEqual((follower.read, follower.confirmed), (4, 0 if confirm == "behind" else 4))
            follower.catch_up()
            self.assertEqual(follower.heap.numbers("b"), [3])

    def test_all_is_cut(self):
        log = self.logged(2, cut="greatest")
        follower = self.follower(log)
        log.cut([2])
        self.assertIs(follower.follow(), False)
        self.assertEqual(self.places(follower), (2, 0, 2, 0))
        # It goes back to what it confirmed, and finds that this is not there any more.
        follower.stop()
        self.assertEqual(follower.read, 0)
        self.append(log, 2)
        self.assertIs(follower.follow(), True)
        self.assertEqual(self.places(follower), (3, 3, 3, 1))

    def test_a_held_unit_is_applied_behind_a_cut(self):
        log = self.logged(3, confirm="ahead", cut="greatest")
        follower = self.follower(log)
        follower.follow()
        log.cut([3])
        self.assertIs(follower.follow(), True)
        self.assertEqual(self.places(follower), (3, 1, 3, 1))
        self.assertIs(follower.follow(), False)

    def test_the_objects_are_not_copied(self):
        log = self.logged(0)
        heap = Heap()
        keeper, adder = Keeper(heap), Adder()
        follower = Follower(log, WORLD, heap, adder, [keeper])
        log.begin(0)
        log.wrote(0, PUT, [(("row", "b", 0, (0, 0, 0)), [])])
        log.end(0)
        follower.follow()
        self.assertEqual((len(heap), len(keeper.told), adder.told), (1, 1, []))

    def test_totals_and_keepers(self):
        log = Log(LogBook(kept="logged"))
        heap = Heap()
        summaries = SummaryBook(Summary("many", "a", "sum", 0, ALWAYS), Summary("top", "a", "greatest", 0, ALWAYS))
        book = IndexBook(Index("i", "a", 0, ALWAYS))
        totals, entries = Totals(summaries, heap), Entries(book)
        follower = Follower(log, WORLD, heap, totals, [entries, GreatestOnly(totals)])
        log.begin(0)
        log.wrote(0, PUT, [(("row", "a", 0, (2, 1, 1)), [("many", 2)])])
        log.end(0)
        follower.follow()
        self.assertEqual((totals.current("many"), totals.current("top")), (2, 2))
        self.assertEqual(entries.listed("i"), [(2, 0)])

    def test_two_followers_read_apart(self):
        log = self.logged(3)
        first, second = self.follower(log), self.follower(log)
        first.catch_up()
        second.follow()
        self.assertEqual((first.read, second.read), (3, 1))

    def test_a_follower_has_the_rows_of_the_main_heap(self):
        for chance in chances(60, "followers"):
            world = random_world(chance)
            what, confirm = chance.choice(("image", "statement")), chance.choice(("with", "behind", "ahead"))
            log = Log(LogBook(what=what, confirm=confirm))
            main, heap = Heap(), Heap()
            book = IndexBook(Index("i", "a", 1, ("below", 0, 2)))
            entries = Entries(book)
            follower = Follower(log, world, heap, None, [entries])
            for script in range(10):
                log.begin(script)
                for _ in range(chance.randrange(3)):
                    statement = random_statement(chance, world)
                    _, writes = run_plainly(world, main, statement, everyone)
                    log.wrote(script, statement, [(("row", table, at, new), []) for table, at, _, new in writes])
                log.end(script)
                for _ in range(chance.randrange(3)):
                    follower.follow()
            follower.catch_up()
            for table in world:
                self.assertEqual(heap.pairs(table), main.pairs(table))
            self.assertEqual(entries.listed("i"), due_entries(book.index("i"), main))
