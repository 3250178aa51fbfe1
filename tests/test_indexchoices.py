import itertools
import unittest

from bookstogether.entries import Entries
from bookstogether.errors import UnknownIndex, ZeroDivisor
from bookstogether.heaps import Heap
from bookstogether.indexbooks import Index, IndexBook
from bookstogether.indexchoices import found_together, least_together, mattering, position_choices

from tests.samples import ALWAYS, NEVER, ROWS, chances, plain_outcome, random_condition, random_heap


def searched_mattering(condition):
    """The columns that matter, found by a search over all pairs of rows."""
    found = set()
    for row in ROWS:
        for other in ROWS:
            differing = [at for at in range(3) if row[at] != other[at]]
            if len(differing) == 1:
                if (plain_outcome(condition, row) == "true") != (plain_outcome(condition, other) == "true"):
                    found.add(differing[0])
    return tuple(sorted(found))


class TestMattering(unittest.TestCase):
    def test_simple_conditions(self):
        self.assertEqual(mattering(ALWAYS), ())
        self.assertEqual(mattering(NEVER), ())
        self.assertEqual(mattering(("equal", 1, 0)), (1,))
        self.assertEqual(mattering(("and", ("unknown", 2), ("below", 0, 1))), (0, 2))

    def test_a_column_that_is_named_and_does_not_matter(self):
        self.assertEqual(mattering(("below", 1, 0)), ())
        self.assertEqual(mattering(("or", ("unknown", 1), ("not", ("unknown", 1)))), ())
        # It is unknown or false, which is not true in both cases.
        self.assertEqual(mattering(("and", ("equal", 1, 0), ("equal", 1, 1))), ())

    def test_an_error_is_not_true(self):
        self.assertEqual(mattering(("or", ("quotient", 0, 1, 0), ALWAYS)), (1,))
        self.assertEqual(mattering(("and", ("quotient", 0, 1, 0), NEVER)), ())
        self.assertEqual(mattering(("quotient", 0, 0, 1)), (0,))

    def test_against_a_plain_search(self):
        for chance in chances(20, "mattering"):
            condition = random_condition(chance, 4, quotients=True)
            self.assertEqual(mattering(condition), searched_mattering(condition))

    def test_deep_conditions(self):
        wide = ("equal", 2, 1)
        for at in range(9):
            wide = ("or", wide, wide) if at % 2 else ("and", wide, wide)
        self.assertEqual(mattering(wide), (2,))


class TestPositionChoices(unittest.TestCase):
    def test_order(self):
        self.assertEqual(list(position_choices(0)), [()])
        self.assertEqual(list(position_choices(1)), [(), (0,)])
        expected = [(), (0,), (1,), (2,), (0, 1), (0, 2), (1, 2), (0, 1, 2)]
        self.assertEqual(list(position_choices(3)), expected)

    def test_against_combinations(self):
        for count in (4, 7, 10):
            expected = [choice for size in range(count + 1) for choice in itertools.combinations(range(count), size)]
            self.assertEqual(list(position_choices(count)), expected)
        self.assertEqual(len(expected), 1024)

    def test_it_yields(self):
        choices = position_choices(10)
        self.assertEqual([next(choices), next(choices)], [(), (0,)])


class TestLeastTogether(unittest.TestCase):
    LOW, HIGH = Index("low", "a", 0, ("below", 0, 1)), Index("high", "a", 1, ("not", ("below", 0, 1)))
    ALL = Index("all", "a", 2, ("not", ("unknown", 0)))
    ELSE = Index("else", "b", 0, ALWAYS)

    def test_one_and_two(self):
        book = IndexBook(self.LOW, self.ELSE, self.HIGH)
        self.assertEqual(least_together(book, "a", ("equal", 0, 0)), ("low",))
        self.assertEqual(least_together(book, "a", ("equal", 0, 2)), ("high",))
        self.assertEqual(least_together(book, "a", ("not", ("unknown", 0))), ("low", "high"))
        self.assertEqual(least_together(book, "b", ALWAYS), ("else",))

    def test_fewer_come_first_and_then_earlier_ones(self):
        book = IndexBook(self.HIGH, self.LOW, self.ALL)
        self.assertEqual(least_together(book, "a", ("not", ("unknown", 0))), ("all",))
        self.assertEqual(least_together(book, "a", ("equal", 0, 0)), ("low",))
        self.assertEqual(least_together(IndexBook(self.ALL, self.LOW), "a", ("equal", 0, 0)), ("all",))

    def test_no_live_rows(self):
        for book in (IndexBook(), IndexBook(self.LOW)):
            self.assertEqual(least_together(book, "a", NEVER), ())
            self.assertEqual(least_together(book, "a", ("below", 0, 0)), ())

    def test_none(self):
        self.assertIsNone(least_together(IndexBook(), "a", ALWAYS))
        self.assertIsNone(least_together(IndexBook(self.ELSE), "a", ALWAYS))
        self.assertIsNone(least_together(IndexBook(self.LOW, self.HIGH), "a", ALWAYS))

    def test_rows_with_an_error_are_live(self):
        # The condition divides by 0 where column 0 is 0, and is true for no other row.
        condition = ("and", ("quotient", 1, 0, 0), NEVER)
        self.assertEqual(least_together(IndexBook(self.HIGH, self.LOW), "a", condition), ("low",))

    def test_against_a_plain_search(self):
        seen = set()
        for chance in chances(60, "together"):
            indexes = [Index("ijklmn"[at], chance.choice("aaab"), 0, random_condition(chance, 2)) for at in range(6)]
            condition = random_condition(chance, 3, quotients=True)
            expected = self.searched(indexes, condition)
            seen.add(expected if expected is None else len(expected))
            self.assertEqual(least_together(IndexBook(*indexes), "a", condition), expected)
        self.assertLessEqual({None, 0, 1, 2}, seen)

    def searched(self, indexes, condition):
        own = [index for index in indexes if index.table == "a"]
        live = [row for row in ROWS if plain_outcome(condition, row) in ("true", "error")]
        for size in range(len(own) + 1):
            for chosen in itertools.combinations(own, size):
                if all(any(plain_outcome(index.condition, row) == "true" for index in chosen) for row in live):
                    return tuple(index.name for index in chosen)
        return None


class TestFoundTogether(unittest.TestCase):
    def filled(self, heap, *indexes):
        entries = Entries(IndexBook(*indexes))
        entries.fill(heap)
        return entries

    def test_each_number_once_and_ascending(self):
        heap = Heap()
        for row in ((2, 0, 0), (1, 0, 1), (0, 0, 0), (0, 1, 1), (None, 0, 0)):
            heap.put("a", row)
        heap.put("b", (0, 0, 0))
        entries = self.filled(heap, Index("i", "a", 0, ("below", 0, 2)), Index("j", "a", 0, ("not", ("unknown", 0))))
        self.assertEqual(found_together(entries, heap, ("i", "j"), ALWAYS), [0, 1, 2, 3])
        self.assertEqual(found_together(entries, heap, ("j",), ("equal", 1, 0)), [0, 1, 2])
        self.assertEqual(found_together(entries, heap, ("i",), ("equal", 1, 0)), [1, 2])
        self.assertEqual(found_together(entries, heap, (), ALWAYS), [])

    def test_errors(self):
        heap = Heap()
        heap.put("a", (0, 1, 1))
        heap.put("a", (1, 0, 1))
        entries = self.filled(heap, Index("i", "a", 0, ("equal", 0, 0)), Index("j", "a", 0, ("equal", 0, 1)))
        self.assertEqual(found_together(entries, heap, ("i",), ("quotient", 0, 1, 0)), [0])
        # It does not look at the row that would raise the error above, but here it does.
        for names in (("j",), ("i", "j")):
            with self.assertRaises(ZeroDivisor):
                found_together(entries, heap, names, ("quotient", 0, 1, 0))
        self.assertEqual(entries.listed("j"), [(1, 1)])

    def test_entries_that_are_not_due(self):
        heap = Heap()
        for row in ((0, 0, 0), (1, 1, 1), (0, 2, 2)):
            heap.put("a", row)
        entries = self.filled(heap, Index("i", "a", 0, ("equal", 0, 0)))
        heap.write("a", 0, None)
        heap.write("a", 2, (2, 2, 2))
        heap.put("a", (0, 1, 1))
        self.assertEqual(found_together(entries, heap, ("i",), ALWAYS), [2])
        self.assertEqual(found_together(entries, heap, ("i",), ("equal", 0, 0)), [])

    def test_an_unknown_index(self):
        with self.assertRaises(UnknownIndex) as caught:
            found_together(Entries(IndexBook()), Heap(), ("i",), ALWAYS)
        self.assertEqual(caught.exception.name, "i")

    def test_the_least_choice_finds_all_rows(self):
        found = 0
        for chance in chances(60, "found together"):
            book = IndexBook(*[Index("ijkl"[at], "a", 0, random_condition(chance, 2)) for at in range(4)])
            condition = random_condition(chance, 3)
            heap = random_heap(chance, 20)
            entries = Entries(book)
            entries.fill(heap)
            names = least_together(book, "a", condition)
            if names is not None:
                found += 1
                expected = [number for number, row in heap.pairs("a") if plain_outcome(condition, row) == "true"]
                self.assertEqual(found_together(entries, heap, names, condition), expected)
        self.assertGreater(found, 10)
