import unittest

from bookstogether.bookshelf import Books
from bookstogether.copybooks import CopyBook
from bookstogether.dues import desk_faults, story_faults
from bookstogether.desks import Desk
from bookstogether.hidingbooks import HidingBook
from bookstogether.indexbooks import Index, IndexBook
from bookstogether.judging import judge
from bookstogether.lockbooks import LockBook
from bookstogether.logbooks import LogBook
from bookstogether.lookbooks import LookBook
from bookstogether.meetingstories import least_story
from bookstogether.stores import Store
from bookstogether.summarybooks import Summary, SummaryBook
from bookstogether.upsertbooks import UpsertBook
from bookstogether.wholetexts import read_whole, write_whole
from bookstogether.worlds import World

from tests.bookmaker import largest_books, some_books, some_start, some_story, some_world
from tests.samples import ALWAYS, WORLD, chances

# The parts and the word of each finding that there is.
ALONE = [
    ("upserts", "asked"), ("indexes", "writes"), ("indexes", "serves"), ("indexes", "errors"), ("indexes", "rules"),
    ("locks", "lasts"), ("locks", "rows"), ("locks", "ring"), ("locks", "checks"), ("hiding", "first"),
    ("looks", "counts"),
    ("summaries", "stays"), ("log", "ahead"), ("log", "cut"), ("log", "again"), ("log", "undo"), ("copies", "own"),
    ("copies", "seen"), ("copies", "main"),
]
TOGETHER = [
    ("upserts", "indexes", "arbiter"), ("upserts", "hiding", "sees"), ("indexes", "locks", "marks"),
    ("indexes", "hiding", "holds"), ("indexes", "looks", "claim"), ("indexes", "summaries", "edge"),
    ("indexes", "copies", "start"), ("locks", "looks", "behind"), ("locks", "summaries", "unkept"),
    ("locks", "summaries", "image"), ("locks", "log", "begin"), ("hiding", "looks", "told"),
    ("hiding", "summaries", "alike"),
    ("hiding", "log", "unseen"), ("hiding", "copies", "hides"), ("looks", "summaries", "lazy"),
    ("summaries", "log", "twice"),
    ("summaries", "copies", "main"), ("log", "copies", "midway"), ("log", "copies", "again"),
]


class StoryCase(unittest.TestCase):
    def show(self, world, books):
        """Each finding of the verdict has a story that shows it and needs each of its turns."""
        kinds = []
        for parts, finding in judge(world, books):
            store, turns = least_story(world, books, parts, finding)
            selection = books.only(*parts)
            where = (parts, finding, turns, selection.lines())
            self.assertIsInstance(turns, tuple)
            self.assertLessEqual(len(turns), 5)
            self.assertLessEqual(len(store), 10)
            self.assertIsInstance(store, Store)
            self.assertIs(store.world, world)
            self.assertNotEqual(story_faults(world, selection, store, turns), [], where)
            for at in range(len(turns)):
                self.assertEqual(story_faults(world, selection, store, turns[:at] + turns[at + 1:]), [], where)
            kinds.append((*parts, finding[0]))
        return kinds


class TestEachFinding(StoryCase):
    def shown(self, kind, world=WORLD, **books):
        self.assertIn(kind, self.show(world, Books(**books)))

    def test_upserts(self):
        world = World(["a", "b"], [("r", "b", 0, ("and", ("and", ("equal", 0, 1), ("equal", 1, 1)), ("equal", 2, 1)))])
        for one in (WORLD, world):
            self.shown(("upserts", "asked"), one, upserts=UpsertBook(tells="asked", sees="all", again=False))

    def test_indexes(self):
        world = World(["a", "b"])
        for writes in ("column", "put"):
            for serves in ("implied", "possible", "true"):
                for condition in (("equal", 2, 1), ("and", ("equal", 0, 1), ("equal", 1, 2)), ("unknown", 2)):
                    book = IndexBook(Index("i", "b", 0, condition), writes=writes, serves=serves)
                    self.shown(("indexes", "writes"), world, indexes=book)
        self.shown(("indexes", "serves"), world,
                   indexes=IndexBook(Index("i", "b", 0, ("equal", 1, 0)), serves="possible"))
        for condition in (ALWAYS, ("not", ALWAYS), ("equal", 0, 0)):
            self.shown(("indexes", "errors"), world, indexes=IndexBook(Index("i", "b", 0, condition), serves="true"))
        ruled = World(["a", "b"], [("p", "b", 0, ALWAYS)])
        for index in (Index("p", "b", 0, ("equal", 1, 1), "p"), Index("p", "b", 1, ALWAYS, "p")):
            for writes in ("both", "column", "put"):
                self.shown(("indexes", "rules"), ruled, indexes=IndexBook(index, writes=writes))

    def test_locks(self):
        for options in (
            {}, {"read": "store"}, {"read": "table", "write": "table"},
            {"read": "road", "write": "row", "clash": "back"},
            {"read": "rows", "write": "row"}, {"read": "store", "write": "row", "checks": "none"},
        ):
            self.shown(("locks", "lasts"), locks=LockBook(lasts="turn", **options))
        for clash in ("wait", "age", "back"):
            self.shown(("locks", "rows"), locks=LockBook(read="rows", write="row", clash=clash))
        for read in ("store", "table", "road", "rows"):
            for write in ("store", "table", "row"):
                if (read, write) != ("rows", "row"):
                    self.shown(("locks", "ring"), locks=LockBook(read=read, write=write))
                    if write == "row":
                        for clash in ("wait", "age", "back"):
                            self.shown(("locks", "checks"),
                                       locks=LockBook(read=read, write=write, checks="none", clash=clash))

    def test_hiding_looks_and_summaries(self):
        self.shown(("hiding", "first"), hiding=HidingBook((2, "b", ("not", ("equal", 1, 0))), first="ask", told="all"))
        self.shown(("looks", "counts"), looks=LookBook(tells=True, counts="found"))
        for undo in ("difference", "image"):
            book = SummaryBook(Summary("s", "b", "greatest", 0, ("equal", 1, 1)), greatest="stays", undo=undo)
            self.shown(("summaries", "stays"), summaries=book)

    def test_the_log(self):
        for what in LogBook.WHAT:
            for when in LogBook.WHEN:
                for confirm in LogBook.CONFIRM:
                    for cut in LogBook.CUT:
                        for kept in LogBook.KEPT:
                            book = LogBook(what=what, when=when, confirm=confirm, cut=cut, kept=kept)
                            kinds = self.show(WORLD, Books(log=book))
                            self.assertEqual(("log", "cut") in kinds, cut == "greatest")

    def test_copies(self):
        words = ("own", "seen", "main")
        tuples = [tuple(word for at, word in enumerate(words) if bits >> at & 1) for bits in range(8)]
        for marks in tuples:
            kinds = self.show(WORLD, Books(copies=CopyBook(served=True, marks=marks, promises=words)))
            self.assertEqual(kinds, [("copies", word) for word in words if word not in CopyBook.kept_by(marks)])
        for promises in tuples:
            self.show(WORLD, Books(copies=CopyBook(served=True, promises=promises, hides=False, indexes="start",
                                                   summaries="main")))

    def test_indexes_and_others(self):
        world = World(["a", "b"])
        indexes = IndexBook(Index("i", "b", 0, ("equal", 0, 1)), writes="column")
        for clash in ("age", "back"):
            for asks in ("ahead", "behind"):
                locks = LockBook(read="road", write="row", marks="written", clash=clash, asks=asks)
                self.shown(("indexes", "locks", "marks"), world, indexes=indexes, locks=locks)
        for most in (1, 2, 9):
            for serves in ("implied",):
                looks = LookBook(("i", most), tells=True)
                self.shown(("indexes", "looks", "claim"), world, indexes=IndexBook(*indexes.indexes, serves=serves),
                           looks=looks)
        free = IndexBook(Index("i", "b", 0, ALWAYS))
        self.shown(("indexes", "looks", "claim"), world, indexes=free, looks=LookBook(("i", 9), tells=True))
        for condition in (ALWAYS, ("equal", 0, 2)):
            summaries = SummaryBook(Summary("s", "b", "greatest", 0, condition), edges=[("s", "i")])
            self.shown(("indexes", "summaries", "edge"), world, indexes=IndexBook(*indexes.indexes),
                       summaries=summaries)
        for marks in ((), ("main",), ("own", "seen", "main")):
            copies = CopyBook(served=True, indexes="start", marks=marks)
            self.shown(("indexes", "copies", "start"), world, indexes=free, copies=copies)

    def test_locks_and_others(self):
        looks = LookBook(tells=True)
        self.shown(("locks", "looks", "behind"), looks=looks, locks=LockBook(asks="behind"))
        summaries = [Summary(f"s{kind[0]}", "b", kind, 0, ("equal", 0, 1)) for kind in ("count", "sum", "greatest")]
        for read in ("store", "table", "road", "rows"):
            for write in ("table", "row"):
                if (read, write) == ("rows", "row"):
                    continue
                locks = LockBook(read=read, write=write, clash="age", asks="behind")
                self.shown(("locks", "looks", "behind"), looks=looks, locks=locks)
                for clash in ("age", "back"):
                    locks = LockBook(read=read, write=write, clash=clash, kept="none")
                    for what in LogBook.WHAT:
                        self.shown(("locks", "log", "begin"), locks=locks, log=LogBook(when="begin", what=what))
                    for one in summaries if write == "row" else []:
                        for greatest in ("write", "question"):
                            book = SummaryBook(one, undo="image", greatest=greatest)
                            kind = "unkept" if read in ("table", "road") else "image"
                            world = World(["a", "b"])
                            self.shown(("locks", "summaries", kind), world, locks=locks, summaries=book)
                            self.shown(("locks", "summaries", "image"), world, locks=locks, summaries=book)

    def test_other_meetings(self):
        hiding = HidingBook((1, "a", ("not", ("equal", 1, 0))), told="all")
        self.shown(("hiding", "looks", "told"), hiding=hiding, looks=LookBook(tells=True))
        one = [Summary("s", "a", kind, 0, ALWAYS) for kind in ("count", "sum", "greatest")]
        for summary in one:
            self.shown(("hiding", "summaries", "alike"), hiding=hiding,
                       summaries=SummaryBook(summary, alike="question"))
            copies = CopyBook(served=True, summaries="main", marks=("main",))
            self.shown(("summaries", "copies", "main"), summaries=SummaryBook(summary), copies=copies)
        for when in ("end", "begin"):
            # The row without known values is the first hidden one, or the first shown one.
            for condition in (("equal", 1, 0), ("unknown", 0), ("or", ("unknown", 0), ("equal", 1, 1))):
                book = HidingBook((1, "a", condition))
                self.shown(("hiding", "log", "unseen"), hiding=book, log=LogBook(what="statement", when=when))
        self.shown(("hiding", "copies", "hides"), hiding=hiding,
                   copies=CopyBook(served=True, hides=False, marks=("main",)))
        lazy = SummaryBook(*one[2:], greatest="question")
        self.shown(("looks", "summaries", "lazy"), looks=LookBook(tells=True), summaries=lazy)
        log = LogBook(kept="logged", confirm="behind")
        for summary in one[:2]:
            self.shown(("summaries", "log", "twice"), summaries=SummaryBook(summary), log=log)
        copies = CopyBook(served=True, marks=("own", "seen", "main"))
        self.shown(("log", "copies", "midway"), log=LogBook(when="write"), copies=copies)
        self.shown(("log", "copies", "again"), log=LogBook(confirm="behind"), copies=copies)


class TestManyBooks(StoryCase):
    def test_each_kind_of_finding_is_shown(self):
        found = set()
        for chance in chances(330, "stories"):
            world = some_world(chance)
            found.update(self.show(world, some_books(chance, world)))
        # The kinds that come up by chance in few worlds have tests of their own.
        self.assertGreater(len(found), len(ALONE + TOGETHER) - 3)
        self.assertLessEqual(found, set(ALONE + TOGETHER))

    def test_what_hidden_rows_do_to_right_books_of_other_parts(self):
        for chance in chances(60, "hidden rows"):
            world = some_world(chance)
            books = some_books(chance, world)
            log = LogBook(what="statement")
            indexes = IndexBook.of_world(world)
            hiding = HidingBook(*books.hiding.rules)
            arbiters = [(rule[0], rule[0]) for rule in world.rules[:4]]
            upserts = UpsertBook(*arbiters, sees="all")
            self.show(world, Books(log=log, indexes=indexes, hiding=hiding, upserts=upserts))

    def test_the_largest_books(self):
        world, books = largest_books()
        self.assertGreater(len(self.show(world, books)), 12)
        words = set()
        for chance in chances(5, "largest books"):
            start = some_start(chance, world, books)
            words.update(word for _, word in story_faults(world, books, start, some_story(chance, world, books, 80)))
        self.assertLessEqual({"answer", "looks"}, words)

    def test_indexes_on_their_own_column(self):
        # Books of indexes that may write for their column alone are rare; here they meet all others.
        for chance in chances(40, "own columns"):
            world = World(["a", "b"])
            indexes = [
                Index(f"x{name}", chance.choice("ab"), column,
                      chance.choice([ALWAYS, ("equal", column, 1), ("unknown", column)]))
                for name, column in zip("abc", (0, 1, 2))
            ]
            books = some_books(chance, world)
            locks = LockBook(read="road", write="row", marks="written", clash=chance.choice(("age", "back")))
            copies = CopyBook(served=True, indexes="start")
            made = books.altered(indexes=IndexBook(*indexes, writes="column"), locks=locks, copies=copies)
            self.assertIn(("indexes", "locks", "marks"),
                          self.show(world, made.only("indexes", "locks", "copies", "looks")))


class TestTexts(unittest.TestCase):
    def test_a_story_can_be_written_and_read(self):
        for chance in chances(30, "written stories"):
            world = some_world(chance)
            books = some_books(chance, world)
            for parts, finding in judge(world, books):
                store, turns = least_story(world, books, parts, finding)
                selection = books.only(*parts)
                text = write_whole(world, selection, store, turns)
                told = story_faults(*read_whole(text))
                self.assertEqual(told, story_faults(world, selection, store, turns))

    def test_long_stories(self):
        words = set()
        for chance in chances(30, "long stories"):
            world = some_world(chance)
            books = some_books(chance, world)
            store = some_start(chance, world, books)
            story = some_story(chance, world, books, 60)
            desk = Desk(world, books, store)
            desk.run(*story)
            told = desk_faults(desk)
            self.assertEqual(told, sorted(told))
            words.update(word for _, word in told)
            self.assertEqual(story_faults(*read_whole(write_whole(world, books, store, story))), told)
        self.assertEqual(words, {"answer", "looks", "ring", "session", "follower"})
