import unittest

from bookstogether.errors import InvalidCondition
from bookstogether.truth import Truth

FALSE, UNKNOWN, TRUE = Truth(0), Truth(1), Truth(2)
ALL = (FALSE, UNKNOWN, TRUE)


class TestTruth(unittest.TestCase):
    def test_count_and_rank(self):
        self.assertEqual(Truth.COUNT, 3)
        self.assertEqual([truth.rank for truth in ALL], [0, 1, 2])

    def test_of_value(self):
        for value, rank in ((False, 0), (None, 1), (True, 2)):
            self.assertEqual(Truth.of(value).rank, rank)
            self.assertIs(Truth.of(value).value, value)

    def test_words(self):
        for rank, word in enumerate(("false", "unknown", "true")):
            self.assertEqual(Truth.from_word(word).rank, rank)
            self.assertEqual(Truth(rank).word, word)
        for word in ("", "True", "error", "none", "true "):
            with self.assertRaises(InvalidCondition):
                Truth.from_word(word)

    def test_and_or(self):
        for a in ALL:
            for b in ALL:
                self.assertEqual((a & b).rank, min(a.rank, b.rank))
                self.assertEqual((a | b).rank, max(a.rank, b.rank))
                self.assertIsInstance(a & b, Truth)
                self.assertIsInstance(a | b, Truth)

    def test_not(self):
        self.assertEqual([(~a).rank for a in ALL], [2, 1, 0])

    def test_exclusive_or(self):
        told = [[(a ^ b).rank for b in ALL] for a in ALL]
        self.assertEqual(told, [[0, 1, 2], [1, 1, 1], [2, 1, 0]])

    def test_comparisons(self):
        for a in range(3):
            for b in range(3):
                x, y = Truth(a), Truth(b)
                self.assertIs(x == y, a == b)
                self.assertIs(x != y, a != b)
                self.assertIs(x < y, a < b)
                self.assertIs(x <= y, a <= b)

    def test_operators_stand_in_the_class(self):
        for name in ("and", "or", "xor", "invert", "eq", "ne", "lt", "le", "bool"):
            self.assertIn(f"__{name}__", vars(Truth))

    def test_other_kinds_are_not_equal(self):
        self.assertFalse(TRUE == 2)
        self.assertTrue(TRUE != 2)

    def test_bool_is_true_for_true_only(self):
        self.assertEqual([bool(a) for a in ALL], [False, False, True])

    def test_operators_change_nothing(self):
        a, b = Truth(0), Truth(2)
        a & b, a | b, a ^ b, ~a
        self.assertEqual((a.rank, b.rank), (0, 2))
