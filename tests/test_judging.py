import itertools
import unittest

from bookstogether.bookshelf import PARTS, Books
from bookstogether.copybooks import CopyBook
from bookstogether.copyjudge import judge_copies
from bookstogether.errors import InvalidBook
from bookstogether.hidingbooks import HidingBook
from bookstogether.hidingjudge import judge_hiding
from bookstogether.indexbooks import Index, IndexBook
from bookstogether.indexjudge import judge_indexes
from bookstogether.judging import judge
from bookstogether.lockbooks import LockBook
from bookstogether.lockjudge import judge_locks
from bookstogether.logbooks import LogBook
from bookstogether.logjudge import judge_log
from bookstogether.lookbooks import LookBook
from bookstogether.lookjudge import judge_looks
from bookstogether.meetings import meet_books
from bookstogether.summarybooks import Summary, SummaryBook
from bookstogether.summaryjudge import judge_summaries
from bookstogether.upsertbooks import UpsertBook
from bookstogether.upsertjudge import judge_upserts
from bookstogether.worlds import World

from tests.bookmaker import largest_books, some_books, some_world
from tests.samples import ALWAYS, WORLD, chances

JUDGES = {
    "upserts": judge_upserts, "indexes": judge_indexes, "locks": judge_locks, "hiding": judge_hiding,
    "looks": judge_looks,
    "summaries": judge_summaries, "log": judge_log, "copies": judge_copies,
}
PAIRS = list(itertools.combinations(PARTS, 2))


class TestVerdict(unittest.TestCase):
    def test_plain_books(self):
        verdict = judge(WORLD, Books())
        self.assertEqual((verdict.findings, len(verdict), list(verdict), verdict.right), ((), 0, [], True))
        paper = [f"{part}: 0" for part in PARTS] + [f"{first} {second}: 0" for first, second in PAIRS]
        self.assertEqual(verdict.paper, tuple(paper))
        self.assertEqual(len(verdict.paper), 36)
        self.assertEqual(verdict.paper[8:10], ("upserts indexes: 0", "upserts locks: 0"))
        self.assertEqual(verdict.paper[-1], "log copies: 0")

    def test_a_book_that_is_wrong_alone(self):
        verdict = judge(WORLD, Books(log=LogBook(confirm="ahead", cut="greatest"), copies=CopyBook(served=True)))
        self.assertEqual(verdict.findings, ((("log",), ("ahead",)), (("log",), ("cut",))))
        self.assertIs(verdict.right, False)
        self.assertIn("log: 2", verdict.paper)
        for part in PARTS:
            if part != "log":
                pair = " ".join(sorted(("log", part), key=PARTS.index))
                self.assertIn(f"{pair}: -", verdict.paper)
        self.assertIn("upserts copies: 0", verdict.paper)

    def test_two_books_that_do_not_meet_cleanly(self):
        looks = LookBook(tells=True)
        hiding = HidingBook((0, "b", ("unknown", 0)), told="all")
        locks = LockBook(read="table", write="row", clash="age", asks="behind")
        log = LogBook(when="begin")
        verdict = judge(WORLD, Books(looks=looks, hiding=hiding, locks=locks, log=log))
        told = (0, "b", (0, None, None))
        self.assertEqual(list(verdict), [
            (("locks", "looks"), ("behind",)), (("locks", "log"), ("begin",)), (("hiding", "looks"), ("told", *told)),
        ])
        self.assertEqual(len(verdict), 3)
        self.assertIn("hiding looks: 1", verdict.paper)
        # Where the looks are wrong alone, only the locks and the log meet.
        verdict = judge(WORLD, Books(looks=LookBook(tells=True, counts="found"), hiding=hiding, locks=locks, log=log))
        self.assertEqual(list(verdict), [(("looks",), ("counts",)), (("locks", "log"), ("begin",))])
        self.assertIn("hiding looks: -", verdict.paper)

    def test_found_in(self):
        locks = LockBook(read="table", write="row", clash="age", asks="behind")
        books = Books(locks=locks, looks=LookBook(tells=True), log=LogBook(when="begin"),
                      upserts=UpsertBook(tells="asked"))
        verdict = judge(WORLD, books)
        self.assertEqual(verdict.found_in("upserts"), (("asked", "p", (0, None, None)),))
        self.assertEqual(verdict.found_in("locks", "looks"), (("behind",),))
        self.assertEqual(verdict.found_in("locks", "log"), (("begin",),))
        for parts in (("locks",), ("looks", "locks"), ("locks", "looks", "log"), (), ("upserts", "locks"),
                      ("strange",)):
            self.assertEqual(verdict.found_in(*parts), ())

    def test_several_findings_of_one_meeting(self):
        world = World(["a", "b"], [("p", "a", 0, ALWAYS), ("r", "b", 0, ALWAYS)])
        indexes = IndexBook(Index("p", "a", 0, ALWAYS, "p"), Index("r", "b", 0, ALWAYS, "r"),
                            Index("i", "a", 1, ALWAYS),
                            Index("j", "b", 1, ALWAYS))
        verdict = judge(world, Books(indexes=indexes, upserts=UpsertBook(("r", "j"), ("p", "i"))))
        self.assertEqual([finding[:3] for finding in verdict.found_in("upserts", "indexes")],
                         [("arbiter", "r", "j"), ("arbiter", "p", "i")])
        self.assertIn("upserts indexes: 2", verdict.paper)

    def test_what_is_returned_is_not_changed(self):
        verdict = judge(WORLD, Books(looks=LookBook(tells=True, counts="found")))
        list(verdict).clear()
        self.assertEqual((len(verdict), isinstance(verdict.findings, tuple), isinstance(verdict.paper, tuple)),
                         (1, True, True))

    def test_books_that_do_not_fit(self):
        for part, books in (
            ("summaries", Books(summaries=SummaryBook(Summary("s", "zz", "count", 0, ALWAYS)))),
            ("indexes", Books(indexes=IndexBook(Index("i", "a", 0, ALWAYS)))),
            ("summaries", Books(indexes=IndexBook.of_world(WORLD),
                                summaries=SummaryBook(Summary("p", "a", "count", 0, ALWAYS)))),
            ("upserts", Books(upserts=UpsertBook(("zz", "i")), hiding=HidingBook((0, "zz", ALWAYS)))),
        ):
            with self.assertRaises(InvalidBook) as caught:
                judge(WORLD, books)
            self.assertEqual(caught.exception.part, part)

    def test_many_books(self):
        for chance in chances(60, "verdicts"):
            world = some_world(chance)
            books = some_books(chance, world)
            alone = {part: JUDGES[part](world, books.book(part)) for part in PARTS}
            findings = [((part,), finding) for part in PARTS for finding in alone[part]]
            paper = [f"{part}: {len(alone[part])}" for part in PARTS]
            for first, second in PAIRS:
                if alone[first] or alone[second]:
                    paper.append(f"{first} {second}: -")
                else:
                    met = meet_books(world, books, first, second)
                    findings += [((first, second), finding) for finding in met]
                    paper.append(f"{first} {second}: {len(met)}")
            verdict = judge(world, books)
            self.assertEqual((verdict.findings, verdict.paper), (tuple(findings), tuple(paper)))
            self.assertEqual(verdict.right, not findings)
            for parts in [(part,) for part in PARTS] + PAIRS:
                self.assertEqual(verdict.found_in(*parts),
                                 tuple(finding for where, finding in findings if where == parts))

    def test_the_largest_books(self):
        world, books = largest_books()
        verdict = judge(world, books)
        self.assertEqual([parts for parts, _ in verdict if len(parts) == 1], [])
        self.assertGreater(len(verdict), 12)
