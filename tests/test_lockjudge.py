import itertools
import unittest

from bookstogether.entries import Entries
from bookstogether.indexbooks import Index, IndexBook
from bookstogether.lockbooks import LockBook
from bookstogether.lockjudge import judge_locks, matters, unguarded
from bookstogether.lockneeds import read_needs, write_needs
from bookstogether.worlds import World

from tests.samples import ALWAYS, NEVER, ROWS, WORLD, chances, plain_group, plain_meet, plain_outcome
from tests.samples import random_condition, random_question, random_world

BARE = World(("a", "b"))
EVERY = [None] + ROWS
BOOKS = [
    LockBook(read=read, write=write, kept=kept)
    for read in ("alone", "store", "table", "road", "rows")
    for write in (("store",) if read == "alone" else ("store", "table", "row"))
    for kept in ("node", "none")
]
ROADS = (("table",), ("index", "i"), ("summary", "s"))


def plain_tell(question, row):
    """What a question is told of one row, or of none."""
    told = "false" if row is None else plain_outcome(question[2], row)
    if told == "error":
        return "zero"
    found = [row] if told == "true" else []
    if question[0] == "rows":
        return found
    if question[0] == "count":
        return len(found)
    known = [one[question[3]] for one in found if one[question[3]] is not None]
    return sum(known) if question[0] == "sum" else known


class TestMatters(unittest.TestCase):
    def test_rows(self):
        question = ("rows", "a", ("equal", 0, 1), "")
        self.assertIs(matters(question, None, (1, 0, 0)), True)
        self.assertIs(matters(question, (1, 0, 1), (1, 0, 0)), True)
        self.assertIs(matters(question, (1, 0, 0), (1, 0, 0)), False)
        self.assertIs(matters(question, None, None), False)
        self.assertIs(matters(question, (2, 0, 0), (None, 0, 0)), False)

    def test_numbers(self):
        question = ("sum", "a", ALWAYS, 1, "")
        self.assertIs(matters(question, (1, 2, 0), (0, 2, 1)), False)
        self.assertIs(matters(question, None, (0, 0, 1)), False)
        self.assertIs(matters(question, None, (0, None, 1)), False)
        self.assertIs(matters(question, None, (0, 1, 1)), True)
        question = ("greatest", "a", ALWAYS, 1, "")
        self.assertIs(matters(question, None, (0, 0, 1)), True)
        self.assertIs(matters(question, None, (0, None, 1)), False)
        self.assertIs(matters(("count", "a", ALWAYS, ""), (0, 0, 0), (1, 1, 1)), False)

    def test_refusals_are_tells(self):
        question = ("count", "a", ("quotient", 0, 1, 2), "")
        self.assertIs(matters(question, None, (0, 0, 0)), True)
        self.assertIs(matters(question, (1, 0, 1), (0, 0, 0)), False)
        self.assertIs(matters(question, (1, 0, 1), (0, 1, 0)), True)

    def test_against_plain_tells(self):
        for chance in chances(40, "matters"):
            question = random_question(chance, WORLD)
            for _ in range(60):
                old, new = chance.choice(EVERY), chance.choice(EVERY)
                self.assertIs(matters(question, old, new), plain_tell(question, old) != plain_tell(question, new))


class TestUnguarded(unittest.TestCase):
    def test_alone_guards_everything(self):
        question = ("rows", "a", ALWAYS, "")
        for book in (LockBook(), LockBook(read="store"), LockBook(read="store", write="row")):
            for road in ROADS:
                self.assertIsNone(unguarded(book, question, road, lambda old, new: False))

    def test_new_rows_are_not_found(self):
        book = LockBook(read="rows", write="row")
        question = ("rows", "a", ("equal", 0, 1), "")
        self.assertEqual(unguarded(book, question, ("table",), lambda old, new: True), (None, (1, None, None)))
        # The sum is changed by a row that was not found, by one that was found it is guarded.
        question = ("sum", "a", ("equal", 0, 1), 0, "")
        self.assertEqual(unguarded(book, question, ("table",), lambda old, new: True), (None, (1, None, None)))

    def test_a_found_row_is_guarded(self):
        book = LockBook(read="rows", write="row")
        question = ("rows", "a", ALWAYS, "")
        first = unguarded(book, question, ("index", "i"), lambda old, new: old is None)
        self.assertEqual(first, (None, (None, None, None)))

    def test_marks(self):
        book = LockBook(read="road", write="row")
        question = ("rows", "a", ("equal", 0, 1), "")
        index = ("index", "i")
        self.assertIsNone(unguarded(book, question, index, lambda old, new: True))
        self.assertEqual(unguarded(book, question, index, lambda old, new: False), (None, (1, None, None)))
        told = unguarded(book, question, index, lambda old, new: new is not None and new[0] == 1)
        self.assertEqual(told, ((1, None, None), None))
        # By the table, the whole table is read, and marks do not count.
        self.assertIsNone(unguarded(book, question, ("table",), lambda old, new: False))

    def test_summaries(self):
        question = ("count", "a", ALWAYS, "")
        for read in ("table", "road", "rows"):
            kept, none = (LockBook(read=read, write="row", kept=word) for word in ("node", "none"))
            self.assertIsNone(unguarded(kept, question, ("summary", "s"), lambda old, new: True))
            for book, marks in ((kept, False), (none, True)):
                found = unguarded(book, question, ("summary", "s"), lambda old, new: marks)
                self.assertEqual(found, (None, (None, None, None)))

    def test_a_question_that_nothing_matters_to(self):
        book = LockBook(read="rows", write="row")
        for word in ("rows", "count"):
            self.assertIsNone(unguarded(book, (word, "a", NEVER, ""), ("table",), lambda old, new: False))

    def test_a_row_that_divides_by_0_is_not_found(self):
        book = LockBook(read="rows", write="row")
        question = ("sum", "a", ("quotient", 0, 1, 0), 0, "")
        # For sums of 0, only the errors matter.
        self.assertEqual(unguarded(book, question, ("table",), lambda old, new: False), (None, (None, 0, None)))
        question = ("count", "a", ("and", ("equal", 1, 0), ("quotient", 0, 1, 0)), "")
        told = unguarded(book, question, ("index", "i"), lambda old, new: old is None)
        self.assertEqual(told, (None, (None, 0, None)))

    def test_against_a_plain_search(self):
        found = 0
        loose = [book for book in BOOKS if book.read in ("road", "rows") and book.write == "row"]
        for chance in chances(120, "unguarded"):
            book, road = chance.choice(BOOKS + loose * 8), chance.choice(ROADS)
            question = random_question(chance, WORLD)
            marked = random_condition(chance, 2)

            def marks(old, new):
                return any(row is not None and plain_outcome(marked, row) == "true" for row in (old, new))

            expected = self.searched(book, question, road, marks)
            found += expected is not None
            self.assertEqual(unguarded(book, question, road, marks), expected)
        self.assertTrue(30 <= found <= 90)

    def searched(self, book, question, road, marks):
        tells = {row: plain_tell(question, row) for row in EVERY}
        for old in EVERY:
            numbers = [5] if old is not None and plain_outcome(question[2], old) == "true" else []
            reading = read_needs(book, question[1], road, numbers)
            for new in EVERY:
                if tells[old] != tells[new]:
                    nodes = [road] if road[0] != "table" and marks(old, new) else []
                    if not plain_meet(reading, write_needs(book, question[1], 5, nodes, [])):
                        return (old, new)
        return None

    def test_what_indexes_touch(self):
        # An index that holds what the question finds guards it if its node is marked for each held row.
        index = Index("i", "a", 0, ("equal", 1, 0))
        book = LockBook(read="road", write="row")
        question = ("sum", "a", ("and", ("equal", 1, 0), ("below", 2, 2)), 2, "")
        told = unguarded(book, question, ("index", "i"), lambda *rows: any(row and index.holds(row) for row in rows))
        self.assertIsNone(told)
        entries = Entries(IndexBook(index, writes="column"))
        told = unguarded(book, question, ("index", "i"), lambda old, new: entries.touches(index, old, new))
        self.assertEqual(told, ((None, None, None), (None, 0, 1)))


class TestJudgeLocks(unittest.TestCase):
    def test_the_plain_book(self):
        self.assertEqual(judge_locks(WORLD, LockBook()), ())

    def test_single_findings(self):
        self.assertEqual(judge_locks(WORLD, LockBook(lasts="turn")), (("lasts",),))
        self.assertEqual(judge_locks(WORLD, LockBook(read="rows", write="row", clash="back")), (("rows",),))
        self.assertEqual(judge_locks(WORLD, LockBook(read="store")), (("ring",),))
        book = LockBook(read="road", write="row", clash="age", checks="none")
        self.assertEqual(judge_locks(WORLD, book), (("checks", "p", (0, None, None)),))

    def test_right_books(self):
        for clash in ("age", "back"):
            for read in ("store", "table", "road"):
                for write in ("store", "table", "row"):
                    self.assertEqual(judge_locks(WORLD, LockBook(read=read, write=write, clash=clash, kept="none")), ())
            self.assertEqual(judge_locks(WORLD, LockBook(read="rows", write="table", clash=clash, checks="none")), ())

    def test_the_first_rule_with_a_group(self):
        rules = [("p", "a", 0, NEVER), ("q", "b", 2, ("equal", 0, 1)), ("r", "a", 0, ALWAYS)]
        book = LockBook(read="road", write="row", clash="age", checks="none")
        self.assertEqual(judge_locks(World(("a", "b"), rules), book), (("checks", "q", (1, None, 0)),))
        self.assertEqual(judge_locks(World(("a", "b"), rules[:1]), book), ())
        self.assertEqual(judge_locks(BARE, book), ())

    def test_all_books(self):
        words = itertools.product(
            ("alone", "store", "table", "road", "rows"), ("store", "table", "row"), ("key", "none"), ("end", "turn"),
            ("wait", "age", "back"),
        )
        for chance, (read, write, checks, lasts, clash) in zip(chances(180, "judge"), words):
            if read == "alone" and write != "store":
                continue
            world = random_world(chance)
            grouped = [(rule[0], row) for rule in world.rules for row in ROWS if plain_group(rule, row) is not None]
            expected = []
            if lasts == "turn":
                expected.append(("lasts",))
            if (read, write) == ("rows", "row"):
                expected.append(("rows",))
            if not expected and clash == "wait" and read != "alone":
                expected.append(("ring",))
            if (checks, write) == ("none", "row") and grouped:
                expected.append(("checks", *grouped[0]))
            book = LockBook(read=read, write=write, checks=checks, lasts=lasts, clash=clash)
            self.assertEqual(judge_locks(world, book), tuple(expected))
