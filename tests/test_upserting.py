import unittest

from bookstogether.errors import Ambiguous
from bookstogether.upsertbooks import UpsertBook
from bookstogether.upserting import matched, target, upsert_tell

RULE = ("p", "a", 0, ("equal", 2, 1))
PAIRS = [(7, (0, 0, 1)), (3, (0, 0, 0)), (5, (1, 0, 1)), (4, (0, 2, 1))]


class TestMatched(unittest.TestCase):
    def test_with_again_and_for_tables_only_clashing_rows(self):
        clashing = [(7, (0, 0, 1)), (4, (0, 2, 1))]
        self.assertEqual(matched(UpsertBook(), RULE, (0, 1, 1), PAIRS, by_index=True), clashing)
        self.assertEqual(matched(UpsertBook(), RULE, (0, 1, 1), PAIRS, by_index=False), clashing)
        self.assertEqual(matched(UpsertBook(again=False), RULE, (0, 1, 1), PAIRS, by_index=False), clashing)
        self.assertEqual(matched(UpsertBook(), RULE, (0, 1, 0), PAIRS, by_index=True), [])

    def test_without_again_all_pairs_of_an_index(self):
        book = UpsertBook(again=False)
        for row in ((0, 1, 1), (0, 1, 0), (None, None, None)):
            found = matched(book, RULE, row, PAIRS, by_index=True)
            self.assertEqual(found, PAIRS)
            self.assertIsNot(found, PAIRS)


class TestTarget(unittest.TestCase):
    def test_none(self):
        self.assertIsNone(target([]))
        self.assertIsNone(target([[], []]))

    def test_one(self):
        pair = (4, (0, 0, 0))
        self.assertEqual(target([[], [pair]]), pair)
        self.assertEqual(target([[pair], [], [pair, pair]]), pair)
        self.assertEqual(target([[(0, (1, 1, 1))]]), (0, (1, 1, 1)))

    def test_two(self):
        first, second = (4, (0, 0, 0)), (0, (0, 0, 0))
        for lists in ([[first, second]], [[first], [second]], [[second], [first]], [[first], [], [first, second]]):
            with self.assertRaises(Ambiguous):
                target(lists)


class TestTell(unittest.TestCase):
    ASKED, OLD, NEW = (0, 0, 0), (1, 1, 1), (2, 2, 2)

    def test_after(self):
        book = UpsertBook()
        self.assertEqual(upsert_tell(book, self.ASKED, None, self.ASKED), ("put", self.ASKED))
        self.assertEqual(upsert_tell(book, self.ASKED, self.OLD, self.OLD), ("kept", self.OLD))
        self.assertEqual(upsert_tell(book, self.ASKED, self.OLD, self.NEW), ("changed", self.OLD, self.NEW))

    def test_asked(self):
        book = UpsertBook(tells="asked")
        self.assertEqual(upsert_tell(book, self.ASKED, None, self.NEW), ("put", self.NEW))
        self.assertEqual(upsert_tell(book, self.ASKED, self.OLD, self.OLD), ("kept", self.ASKED))
        self.assertEqual(upsert_tell(book, self.ASKED, self.OLD, self.NEW), ("changed", self.OLD, self.ASKED))
