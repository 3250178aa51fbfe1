import unittest

from bookstogether.heaps import Heap
from bookstogether.joining import Join

from tests.samples import ALWAYS, NEVER, chances, plain_outcome, random_condition, random_heap, random_row

KNOWN = ("not", ("unknown", 2))


def plain_pairs(join, rows):
    """All pairs of rows, for a list of pairs of a table and a row."""
    def on_side(side):
        table, column, condition = side
        return [
            row for name, row in rows
            if name == table and plain_outcome(condition, row) == "true" and row[column] is not None
        ]
    first, second = join.first, join.second
    return [(row, other) for row in on_side(first) for other in on_side(second) if row[first[1]] == other[second[1]]]


def plain_numbers(join, rows):
    pairs = plain_pairs(join, rows)
    known = [row[join.summed] for row, _ in pairs if row[join.summed] is not None]
    return (len(pairs), sum(known), max(known, default=None))


def numbers(join):
    return (join.pairs(), join.total(), join.peak())


class TestJoin(unittest.TestCase):
    def test_fields_and_a_new_join(self):
        first, second = ("a", 0, ALWAYS), ("b", 1, KNOWN)
        join = Join(first, second, summed=2)
        self.assertEqual((join.first, join.second, join.summed), (first, second, 2))
        self.assertEqual(numbers(join), (0, 0, None))

    def test_two_tables(self):
        join = Join(("a", 0, ALWAYS), ("b", 1, KNOWN), summed=2)
        for number, (table, row) in enumerate([
            ("a", (1, 0, 2)), ("a", (1, 0, None)), ("a", (None, 0, 2)), ("b", (0, 1, 0)), ("b", (0, 1, 1)),
            ("b", (0, 1, None)), ("b", (1, 0, 0)), ("c", (1, 1, 1)),
        ]):
            self.assertIsNone(join.write(table, number, None, row))
        # Each of the two rows with 1 has the two partners that are on the second side.
        self.assertEqual(numbers(join), (4, 4, 2))

    def test_unknown_values_make_no_pair(self):
        join = Join(("a", 0, ALWAYS), ("b", 0, ALWAYS), summed=0)
        join.write("a", 0, None, (None, 0, 0))
        join.write("b", 1, None, (None, 0, 0))
        self.assertEqual(numbers(join), (0, 0, None))

    def test_no_known_value_to_sum(self):
        join = Join(("a", 0, ALWAYS), ("b", 0, ALWAYS), summed=1)
        join.write("a", 0, None, (1, None, 0))
        join.write("b", 1, None, (1, 2, 0))
        self.assertEqual(numbers(join), (1, 0, None))

    def test_a_known_zero(self):
        join = Join(("a", 0, ALWAYS), ("b", 0, ALWAYS), summed=0)
        join.write("a", 0, None, (0, None, 0))
        join.write("b", 1, None, (0, 2, 0))
        self.assertEqual(numbers(join), (1, 0, 0))

    def test_first_rows_without_a_partner_do_not_count(self):
        join = Join(("a", 0, ALWAYS), ("b", 0, ALWAYS), summed=2)
        join.write("a", 0, None, (0, 0, 2))
        join.write("a", 1, None, (1, 0, 1))
        join.write("b", 2, None, (1, 0, 2))
        self.assertEqual(numbers(join), (1, 1, 1))

    def test_both_sides_in_one_table(self):
        join = Join(("a", 0, ALWAYS), ("a", 1, ALWAYS), summed=0)
        join.write("a", 0, None, (1, 1, 0))
        # One row, on both sides.
        self.assertEqual(numbers(join), (1, 1, 1))
        join.write("a", 1, None, (1, 1, 0))
        self.assertEqual(numbers(join), (4, 4, 1))
        join.write("a", 2, None, (2, 1, 0))
        self.assertEqual(numbers(join), (6, 6, 1))
        join.write("a", 0, (1, 1, 0), None)
        self.assertEqual(numbers(join), (2, 2, 1))
        join.write("a", 1, (1, 1, 0), (0, 0, 0))
        join.write("a", 2, (2, 1, 0), None)
        self.assertEqual(numbers(join), (1, 0, 0))

    def test_written_back_to_no_rows(self):
        join = Join(("a", 0, ALWAYS), ("a", 0, KNOWN), summed=0)
        rows = [(0, 0, 0), (0, 0, 0), (1, 0, None), (2, 2, 2)]
        for number, row in enumerate(rows):
            join.write("a", number, None, row)
        self.assertEqual(join.pairs(), 5)
        for number, row in enumerate(rows):
            join.write("a", number, row, None)
        self.assertEqual(numbers(join), (0, 0, None))

    def test_other_tables_and_nothing(self):
        join = Join(("a", 0, ALWAYS), ("b", 0, ALWAYS), summed=0)
        join.write("c", 0, None, (1, 1, 1))
        join.write("a", 0, None, None)
        self.assertEqual(numbers(join), (0, 0, None))
        join.write("a", 0, None, (1, 1, 1))
        join.write("b", 1, None, (1, 1, 1))
        join.write("a", 0, (1, 1, 1), (1, 1, 1))
        self.assertEqual(numbers(join), (1, 1, 1))

    def test_fill_takes_the_rows_of_a_heap_instead(self):
        join = Join(("a", 0, ALWAYS), ("b", 0, ALWAYS), summed=0)
        join.write("a", 7, None, (2, 2, 2))
        heap = Heap()
        heap.put("a", (1, 0, 0))
        heap.put("b", (1, 0, 0))
        heap.put("b", (2, 0, 0))
        self.assertIsNone(join.fill(heap))
        self.assertEqual(numbers(join), (1, 1, 1))
        join.fill(heap)
        self.assertEqual(numbers(join), (1, 1, 1))
        # The heap is neither kept nor changed.
        self.assertEqual(heap.pairs("b"), [(1, (1, 0, 0)), (2, (2, 0, 0))])
        heap.put("b", (1, 0, 0))
        self.assertEqual(join.pairs(), 1)
        join.fill(Heap())
        self.assertEqual(numbers(join), (0, 0, None))

    def test_sides_that_no_row_is_on(self):
        for first, second in ((NEVER, ALWAYS), (ALWAYS, NEVER)):
            join = Join(("a", 0, first), ("a", 0, second), summed=0)
            join.write("a", 0, None, (1, 1, 1))
            self.assertEqual(numbers(join), (0, 0, None))

    def test_compared_with_all_pairs(self):
        for chance in chances(40, "join"):
            sides = [
                (chance.choice(("a", "b")), chance.randrange(3), random_condition(chance, 3)) for _ in range(2)
            ]
            join = Join(*sides, summed=chance.randrange(3))
            heap = random_heap(chance, chance.randrange(25))
            join.fill(heap)
            rows = {number: heap[number] for number in heap}
            self.assertEqual(numbers(join), plain_numbers(join, list(rows.values())))
            for _ in range(20):
                number = chance.choice(list(rows) + [len(rows) + 100])
                table, old = rows.pop(number, (chance.choice(("a", "b")), None))
                new = chance.choice((None, random_row(chance)))
                join.write(table, number, old, new)
                if new is not None:
                    rows[number] = (table, new)
                self.assertEqual(numbers(join), plain_numbers(join, list(rows.values())))

    def test_many_rows(self):
        join = Join(("a", 0, ALWAYS), ("a", 0, ALWAYS), summed=0)
        for number in range(2000):
            join.write("a", 10 ** 20 + number, None, (2, 0, number % 3))
        self.assertEqual(numbers(join), (4_000_000, 8_000_000, 2))
