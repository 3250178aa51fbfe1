import unittest

from bookstogether.entries import Entries, due_entries
from bookstogether.errors import UnknownIndex
from bookstogether.heaps import Heap
from bookstogether.indexbooks import Index, IndexBook

from tests.samples import ALWAYS, ROWS, chances, plain_truth, random_condition, random_row

BELOW = Index("below", "a", 1, ("below", 0, 2), "p")
ALL = Index("all", "a", 2, ALWAYS)
OTHER = Index("other", "b", 0, ALWAYS)


def book_of(writes="both"):
    return IndexBook(BELOW, ALL, OTHER, writes=writes)


def heap_of(*rows):
    heap = Heap()
    for row in rows:
        heap.put("a", row)
    return heap


class TestDueEntries(unittest.TestCase):
    def test_order(self):
        heap = heap_of((0, 2, 0), (1, 0, 0), (2, 0, 0), (0, None, 0), (1, 0, 0))
        heap.put("b", (0, 0, 0))
        self.assertEqual(due_entries(BELOW, heap), [(None, 3), (0, 1), (0, 4), (2, 0)])
        self.assertEqual(due_entries(OTHER, heap), [(0, 5)])
        self.assertEqual(due_entries(OTHER, Heap()), [])


class TestTouches(unittest.TestCase):
    HELD, MOVED, SAME, OUT = (0, 0, 0), (0, 1, 0), (1, 0, 2), (2, 0, 0)

    def touched(self, writes, pairs):
        entries = Entries(book_of(writes))
        told = [entries.touches(BELOW, old, new) for old, new in pairs]
        self.assertTrue(all(isinstance(one, bool) for one in told))
        return told

    def test_added_and_taken_away(self):
        pairs = [(None, self.HELD), (self.HELD, None), (None, self.OUT), (self.OUT, None), (None, None)]
        for writes in ("both", "column", "put"):
            self.assertEqual(self.touched(writes, pairs), [True, True, False, False, False])

    def test_changed(self):
        held, moved, same, out = self.HELD, self.MOVED, self.SAME, self.OUT
        pairs = [(held, moved), (held, same), (held, held), (held, out), (out, held), (out, moved), (out, out)]
        self.assertEqual(self.touched("both", pairs), [True] * 6 + [False])
        self.assertEqual(self.touched("column", pairs), [True, False, False, False, False, True, False])
        self.assertEqual(self.touched("put", pairs), [False] * 7)

    def test_two_rows_that_are_not_held(self):
        for writes in ("both", "column", "put"):
            self.assertEqual(self.touched(writes, [((2, 0, 0), (2, 1, 0)), ((None, 0, 0), (2, 1, 0))]), [False] * 2)

    def test_from_unknown_to_known(self):
        self.assertEqual(self.touched("column", [((0, None, 0), (0, 0, 0)), ((0, None, 0), (1, None, 1))]),
                         [True, False])


class TestEntries(unittest.TestCase):
    def test_empty_at_first(self):
        book = book_of()
        entries = Entries(book)
        self.assertIs(entries.book, book)
        self.assertEqual([entries.listed(name) for name in ("below", "all", "other")], [[], [], []])

    def test_fill_replaces(self):
        entries = Entries(book_of())
        entries.write("a", 9, None, (0, 0, 0))
        self.assertIsNone(entries.fill(heap_of((0, 2, 1), (2, 0, 0), (0, 0, 1))))
        self.assertEqual(entries.listed("below"), [(0, 2), (2, 0)])
        self.assertEqual(entries.listed("all"), [(0, 1), (1, 0), (1, 2)])
        self.assertEqual(entries.listed("other"), [])

    def test_write(self):
        entries = Entries(book_of())
        self.assertIsNone(entries.write("a", 3, None, (0, 2, 1)))
        entries.write("a", 1, None, (0, 2, None))
        entries.write("a", 2, None, (2, 1, 1))
        self.assertEqual(entries.listed("below"), [(2, 1), (2, 3)])
        self.assertEqual(entries.listed("all"), [(None, 1), (1, 2), (1, 3)])
        self.assertEqual(entries.listed("other"), [])
        entries.write("a", 3, (0, 2, 1), (1, None, 0))
        self.assertEqual(entries.listed("below"), [(None, 3), (2, 1)])
        entries.write("a", 1, (0, 2, None), (2, 2, None))
        self.assertEqual(entries.listed("below"), [(None, 3)])
        entries.write("a", 3, (1, None, 0), None)
        self.assertEqual((entries.listed("below"), entries.listed("all")), ([], [(None, 1), (1, 2)]))

    def test_what_is_not_touched_stays_due_or_not(self):
        entries = Entries(book_of("column"))
        entries.write("a", 0, None, (0, 0, 0))
        entries.write("a", 0, (0, 0, 0), (2, 0, 1))
        self.assertEqual((entries.listed("below"), entries.listed("all")), ([(0, 0)], [(1, 0)]))
        entries = Entries(book_of("put"))
        entries.write("a", 0, None, (0, 0, 0))
        entries.write("a", 0, (0, 0, 0), (0, 1, 1))
        self.assertEqual((entries.listed("below"), entries.listed("all")), ([(0, 0)], [(0, 0)]))
        # A row that is no longer held is taken away by its old row alone if that one is held.
        entries.write("a", 0, (2, 0, 1), None)
        self.assertEqual((entries.listed("below"), entries.listed("all")), ([(0, 0)], []))

    def test_an_entry_that_is_missing_is_added(self):
        entries = Entries(book_of())
        entries.write("a", 5, (0, 0, 0), (0, 1, 0))
        self.assertEqual(entries.listed("below"), [(1, 5)])

    def test_numbers(self):
        entries = Entries(book_of())
        entries.fill(heap_of((0, 2, 1), (0, 0, None), (0, 1, 1), (0, 1, 0)))
        self.assertEqual(entries.numbers("all", (1,)), [0, 2])
        self.assertEqual(entries.numbers("all", (None, 1)), [1, 0, 2])
        self.assertEqual(entries.numbers("all", (2,)), [])
        self.assertEqual(entries.numbers("all", ()), [])
        self.assertEqual(entries.numbers("below", (None, 0, 1, 2)), [1, 2, 3, 0])

    def test_twin(self):
        entries = Entries(book_of())
        entries.fill(heap_of((0, 2, 0), (0, None, 0), (2, 1, 0)))
        self.assertIs(entries.twin("below", (1, 2, 0), 7), True)
        self.assertIs(entries.twin("below", (1, 2, 0), 0), False)
        self.assertIs(entries.twin("below", (2, 2, 0), 7), False)
        self.assertIs(entries.twin("below", (1, None, 0), 7), False)
        self.assertIs(entries.twin("below", (1, 1, 0), 7), False)
        entries.write("a", 3, None, (0, 2, 0))
        self.assertIs(entries.twin("below", (1, 2, 0), 0), True)

    def test_unknown_indexes(self):
        entries = Entries(book_of())
        for ask in (
            lambda: entries.listed("p"),
            lambda: entries.numbers("p", (0,)),
            lambda: entries.twin("p", (None, None, None), 0),
        ):
            with self.assertRaises(UnknownIndex) as caught:
                ask()
            self.assertEqual(caught.exception.name, "p")

    def test_copy(self):
        entries = Entries(book_of())
        entries.fill(heap_of((0, 2, 0)))
        other = entries.copy()
        self.assertIs(other.book, entries.book)
        other.write("a", 1, None, (0, 0, 0))
        entries.write("a", 0, (0, 2, 0), None)
        self.assertEqual(entries.listed("below"), [])
        self.assertEqual(other.listed("below"), [(0, 1), (2, 0)])

    def test_returned_lists_are_new(self):
        entries = Entries(book_of())
        entries.fill(heap_of((0, 2, 0)))
        entries.listed("below").clear()
        entries.numbers("below", (2,)).clear()
        self.assertEqual((entries.listed("below"), entries.numbers("below", (2,))), ([(2, 0)], [0]))

    def test_with_both_the_entries_are_always_due(self):
        for chance in chances(30, "entries"):
            one = Index("one", "a", chance.randrange(3), random_condition(chance, 3))
            two = Index("two", "a", chance.randrange(3), random_condition(chance, 3))
            entries, heap = Entries(IndexBook(one, two)), Heap()
            for _ in range(20):
                number = chance.randrange(heap.fresh + 1)
                old = heap[number][1] if number in heap else None
                new = None if old is not None and chance.randrange(3) == 0 else random_row(chance)
                heap.write("a", number, new)
                entries.write("a", number, old, new)
                for index in (one, two):
                    held = [(n, row) for n, row in heap.pairs("a") if plain_truth(index.condition, row) == 2]
                    due = [(row[index.column], n) for n, row in held]
                    due = sorted(due, key=lambda entry: (entry[0] is not None, entry[0] or 0, entry[1]))
                    self.assertEqual(entries.listed(index.name), due)
                    self.assertEqual(due_entries(index, heap), due)
                    row = chance.choice(ROWS)
                    group = row[index.column] if plain_truth(index.condition, row) == 2 else None
                    twin = group is not None and any(value == group and n != number for value, n in due)
                    self.assertIs(entries.twin(index.name, row, number), twin)
