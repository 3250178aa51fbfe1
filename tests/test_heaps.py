import unittest

from bookstogether.errors import UnknownNumber
from bookstogether.heaps import Heap

X, Y, Z = (0, 0, 0), (None, 1, 2), (2, 2, 2)


def filled():
    heap = Heap()
    for table, row in (("a", X), ("b", Z), ("a", Y), ("a", X)):
        heap.put(table, row)
    return heap


class TestHeap(unittest.TestCase):
    def test_a_new_heap(self):
        heap = Heap()
        self.assertEqual((len(heap), list(heap), heap.fresh), (0, [], 0))
        self.assertEqual((heap.numbers("a"), heap.pairs("a"), heap.bag("a")), ([], [], []))
        self.assertNotIn(0, heap)

    def test_put_gives_numbers(self):
        heap = Heap()
        self.assertEqual([heap.put("a", X), heap.put("b", X), heap.put("a", X)], [0, 1, 2])
        self.assertEqual(heap.fresh, 3)

    def test_reading(self):
        heap = filled()
        self.assertEqual(heap[1], ("b", Z))
        self.assertEqual(len(heap), 4)
        self.assertEqual(sorted(heap), [0, 1, 2, 3])
        self.assertIn(3, heap)
        self.assertEqual(heap.numbers("a"), [0, 2, 3])
        self.assertEqual(heap.pairs("a"), [(0, X), (2, Y), (3, X)])
        self.assertEqual(heap.bag("a"), [Y, X, X])
        self.assertEqual(heap.bag("c"), [])
        for number in (4, -1):
            with self.assertRaises(UnknownNumber) as caught:
                heap[number]
            self.assertEqual(caught.exception.number, number)

    def test_numbers_ascend_whatever_the_order_of_the_writes(self):
        heap = Heap()
        for number in (5, 1, 3):
            heap[number] = ("a", X)
        self.assertEqual(heap.numbers("a"), [1, 3, 5])
        self.assertEqual(heap.pairs("a"), [(1, X), (3, X), (5, X)])

    def test_storing_under_a_number(self):
        heap = Heap()
        heap[7] = ("a", X)
        self.assertEqual((heap[7], heap.fresh), (("a", X), 8))
        heap[2] = ("b", Y)
        self.assertEqual(heap.fresh, 8)
        heap[7] = ("b", Z)
        self.assertEqual((heap[7], heap.numbers("a"), heap.numbers("b")), (("b", Z), [], [2, 7]))
        self.assertEqual(heap.put("a", X), 8)

    def test_write(self):
        heap = filled()
        self.assertIsNone(heap.write("a", 0, Z))
        self.assertEqual(heap[0], ("a", Z))
        self.assertIsNone(heap.write("a", 0, None))
        self.assertNotIn(0, heap)
        self.assertIsNone(heap.write("a", 0, None))
        self.assertIsNone(heap.write("a", 99, None))
        self.assertEqual((len(heap), heap.fresh), (3, 4))
        heap.write("b", 9, X)
        self.assertEqual((heap[9], heap.fresh), (("b", X), 10))

    def test_fresh_after_rows_were_taken_away(self):
        heap = filled()
        for number in (3, 2, 1, 0):
            heap.write("a", number, None)
        self.assertEqual((len(heap), heap.fresh), (0, 4))
        self.assertEqual(heap.put("a", X), 4)

    def test_copy(self):
        heap = filled()
        heap.write("a", 3, None)
        other = heap.copy()
        self.assertEqual((sorted(other), other.fresh), ([0, 1, 2], 4))
        self.assertEqual([other[number] for number in (0, 1, 2)], [heap[number] for number in (0, 1, 2)])
        other.put("a", Z)
        heap.write("a", 0, None)
        self.assertEqual((sorted(heap), heap.fresh), ([1, 2], 4))
        self.assertEqual((sorted(other), other.fresh), ([0, 1, 2, 4], 5))

    def test_returned_lists_are_new(self):
        heap = filled()
        heap.numbers("a").clear()
        heap.pairs("a").clear()
        heap.bag("a").clear()
        self.assertEqual((heap.numbers("a"), heap.bag("a")), ([0, 2, 3], [Y, X, X]))
