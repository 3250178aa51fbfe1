import unittest

from bookstogether.entries import Entries
from bookstogether.heaps import Heap
from bookstogether.indexbooks import Index, IndexBook
from bookstogether.serving import span

from tests.samples import ALWAYS, NEVER, ROWS, chances, plain_truth, random_condition

IMPLIED, POSSIBLE, TRUE = (IndexBook(serves=word) for word in ("implied", "possible", "true"))


def searched_span(book, index, condition):
    """The span, found by a search over all rows."""
    live = (2,) if book.serves == "true" else (2, "error")
    rows = [row for row in ROWS if plain_truth(condition, row) in live]
    held = (1, 2) if book.serves == "possible" else (2,)
    if any(plain_truth(index.condition, row) not in held for row in rows):
        return None
    return tuple(value for value in (None, 0, 1, 2) if any(row[index.column] == value for row in rows))


class TestSpan(unittest.TestCase):
    def test_implied(self):
        index = Index("i", "a", 0, ("below", 0, 2))
        self.assertEqual(span(IMPLIED, index, ("equal", 0, 1)), (1,))
        self.assertEqual(span(IMPLIED, index, ("below", 0, 2)), (0, 1))
        self.assertIsNone(span(IMPLIED, index, ("equal", 0, 2)))
        self.assertIsNone(span(IMPLIED, index, ("unknown", 0)))
        self.assertIsNone(span(IMPLIED, index, ALWAYS))

    def test_all_values(self):
        index = Index("i", "a", 0, ALWAYS)
        self.assertEqual(span(IMPLIED, index, ALWAYS), (None, 0, 1, 2))
        self.assertEqual(span(IMPLIED, index, ("equal", 1, 1)), (None, 0, 1, 2))
        self.assertEqual(span(IMPLIED, index, ("or", ("equal", 0, 2), ("unknown", 0))), (None, 2))

    def test_a_question_that_no_row_concerns(self):
        for book in (IMPLIED, POSSIBLE, TRUE):
            self.assertEqual(span(book, Index("i", "a", 0, NEVER), NEVER), ())

    def test_possible(self):
        index = Index("i", "a", 0, ("below", 0, 2))
        self.assertEqual(span(POSSIBLE, index, ("unknown", 0)), (None,))
        self.assertIsNone(span(POSSIBLE, index, ("equal", 0, 2)))
        self.assertIsNone(span(TRUE, index, ("unknown", 0)))

    def test_rows_that_raise_an_error_concern_the_question(self):
        # The error comes where column 1 is 0, which the index does not hold.
        condition = ("and", ("not", ("unknown", 1)), ("quotient", 0, 1, 2))
        index = Index("i", "a", 1, ("not", ("or", ("unknown", 1), ("equal", 1, 0))))
        self.assertIsNone(span(IMPLIED, index, condition))
        self.assertIsNone(span(POSSIBLE, index, condition))
        self.assertEqual(span(TRUE, index, condition), (1,))
        held = Index("i", "a", 1, ("not", ("unknown", 1)))
        self.assertEqual(span(IMPLIED, held, condition), (0, 1))
        self.assertEqual(span(TRUE, held, condition), (1,))

    def test_against_a_plain_search(self):
        served = 0
        for chance in chances(150, "spans"):
            book = chance.choice((IMPLIED, POSSIBLE, TRUE))
            index = Index("i", "a", chance.randrange(3), random_condition(chance, 3))
            condition = random_condition(chance, 3, quotients=True)
            if chance.randrange(2):
                condition = ("and", index.condition, condition)
            expected = searched_span(book, index, condition)
            served += expected is not None
            self.assertEqual(span(book, index, condition), expected)
        self.assertGreater(served, 20)

    def test_a_served_question_finds_all_its_rows(self):
        heap = Heap()
        for row in ROWS:
            heap.put("a", row)
        for chance in chances(40, "served"):
            index = Index("i", "a", chance.randrange(3), random_condition(chance, 3))
            entries = Entries(IndexBook(index))
            entries.fill(heap)
            condition = ("and", index.condition, random_condition(chance, 3))
            found = entries.numbers("i", span(entries.book, index, condition))
            concerned = [number for number, row in heap.pairs("a") if plain_truth(condition, row) == 2]
            self.assertLessEqual(set(concerned), set(found))
