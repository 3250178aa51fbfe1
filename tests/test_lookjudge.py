import unittest

from bookstogether.hidingbooks import HidingBook
from bookstogether.lookbooks import LookBook
from bookstogether.lookjudge import counts_gap, judge_looks
from bookstogether.passing import passes

from tests.samples import ALWAYS, NEVER, ROWS, WORLD, chances, plain_outcome, random_condition


class TestCountsGap(unittest.TestCase):
    def test_simple(self):
        self.assertIsNone(counts_gap(ALWAYS))
        self.assertEqual(counts_gap(NEVER), (None, None, None))
        self.assertEqual(counts_gap(("unknown", 1)), (None, 0, None))
        self.assertEqual(counts_gap(("or", ("unknown", 0), ("below", 0, 2))), (2, None, None))

    def test_unknown(self):
        self.assertEqual(counts_gap(("equal", 0, 0)), (None, None, None))
        self.assertEqual(counts_gap(("or", ("unknown", 0), ("equal", 1, 0))), (0, None, None))

    def test_an_error_is_no_gap(self):
        # It divides by 0 where it is not true.
        condition = ("or", ("or", ("unknown", 1), ("not", ("equal", 1, 0))), ("quotient", 0, 1, 0))
        self.assertIsNone(counts_gap(condition))

    def test_against_a_plain_search(self):
        for chance in chances(60, "gap"):
            condition = random_condition(chance, 4, quotients=True)
            told = [row for row in ROWS if plain_outcome(condition, row) in ("false", "unknown")]
            self.assertEqual(counts_gap(condition), told[0] if told else None)
            for row in told[:1]:
                self.assertIs(passes(HidingBook(), 0, "a", row, condition), False)


class TestJudgeLooks(unittest.TestCase):
    def test_all_books(self):
        self.assertEqual(judge_looks(WORLD, LookBook()), ())
        self.assertEqual(judge_looks(WORLD, LookBook(counts="found")), ())
        self.assertEqual(judge_looks(WORLD, LookBook(tells=True)), ())
        self.assertEqual(judge_looks(WORLD, LookBook(tells=True, counts="found")), (("counts",),))
        self.assertEqual(judge_looks(WORLD, LookBook(("i", 1), tells=True, counts="found")), (("counts",),))
