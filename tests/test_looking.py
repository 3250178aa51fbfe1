import unittest

from bookstogether.lookbooks import LookBook
from bookstogether.looking import claimed, exceeds, look_count

BOOK = LookBook(("i", 2), ("j", 9))


class TestLookCount(unittest.TestCase):
    def test_looks_that_are_not_told(self):
        self.assertIsNone(look_count(LookBook(), 5, 3))
        self.assertIsNone(look_count(LookBook(counts="found"), 5, 3))

    def test_looked_and_found(self):
        self.assertEqual(look_count(LookBook(tells=True), 5, 3), 5)
        self.assertEqual(look_count(LookBook(tells=True, counts="found"), 5, 3), 3)
        self.assertEqual(look_count(LookBook(tells=True), 0, 0), 0)


class TestClaims(unittest.TestCase):
    def test_claimed(self):
        self.assertEqual((claimed(BOOK, "i"), claimed(BOOK, "j")), (2, 9))
        self.assertIsNone(claimed(BOOK, "k"))
        self.assertIsNone(claimed(BOOK, ""))
        self.assertIsNone(claimed(LookBook(), "i"))

    def test_exceeds(self):
        self.assertIs(exceeds(BOOK, "i", (0,), 3), True)
        self.assertIs(exceeds(BOOK, "i", (0,), 2), False)
        self.assertIs(exceeds(BOOK, "i", (None,), 3), True)
        self.assertIs(exceeds(BOOK, "j", (0,), 3), False)
        self.assertIs(exceeds(BOOK, "j", (0,), 10), True)

    def test_spans_of_no_and_of_several_values(self):
        for span in ((), (0, 1), (None, 0, 1, 2)):
            self.assertIs(exceeds(BOOK, "i", span, 3), False)

    def test_no_claim(self):
        self.assertIs(exceeds(BOOK, "k", (0,), 1000), False)
        self.assertIs(exceeds(LookBook(), "i", (0,), 1000), False)

    def test_whether_looks_are_told_makes_no_difference(self):
        for tells in (False, True):
            self.assertIs(exceeds(LookBook(("i", 2), tells=tells), "i", (0,), 3), True)
