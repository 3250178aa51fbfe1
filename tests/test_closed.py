import unittest

from bookstogether.closed import alike, escape, live_rows, outcome, outcomes, true_rows

from tests.samples import ALWAYS, NEVER, ROWS, chances, plain_truth, random_condition

WORDS = {0: "false", 1: "unknown", 2: "true", "error": "error"}


class TestClosed(unittest.TestCase):
    def test_outcome(self):
        condition = ("quotient", 0, 1, 1)
        self.assertEqual(outcome(condition, (1, 0, 0)), "error")
        self.assertEqual(outcome(condition, (1, 1, 0)), "true")
        self.assertEqual(outcome(condition, (1, 2, 0)), "false")
        self.assertEqual(outcome(condition, (1, None, 0)), "unknown")

    def test_tables_against_a_second_telling(self):
        for chance in chances(80, "closed"):
            condition = random_condition(chance, 4, quotients=True)
            told = [WORDS[plain_truth(condition, row)] for row in ROWS]
            self.assertEqual(outcomes(condition), tuple(told))
            self.assertEqual(true_rows(condition), [row for row, word in zip(ROWS, told) if word == "true"])
            live = [row for row, word in zip(ROWS, told) if word in ("true", "error")]
            self.assertEqual(live_rows(condition), live)

    def test_escape(self):
        self.assertIsNone(escape(ALWAYS, ALWAYS))
        self.assertIsNone(escape(NEVER, NEVER))
        self.assertEqual(escape(ALWAYS, NEVER), (None, None, None))
        self.assertEqual(escape(("unknown", 0), ("below", 1, 1)), (None, None, None))
        self.assertEqual(escape(("not", ("unknown", 0)), ("equal", 0, 0)), (1, None, None))
        self.assertIsNone(escape(("equal", 0, 1), ("below", 0, 2)))

    def test_a_row_with_an_error_is_live_and_no_error_holds_it(self):
        condition = ("and", ("equal", 1, 0), ("quotient", 0, 1, 0))
        self.assertEqual(escape(condition, ("below", 1, 0)), (None, 0, None))
        self.assertIsNone(escape(condition, ("equal", 1, 0)))
        self.assertEqual(escape(condition, condition), (None, 0, None))

    def test_escape_against_a_plain_search(self):
        for chance in chances(80, "escape"):
            condition = random_condition(chance, 3, quotients=True)
            other = random_condition(chance, 3, quotients=True)
            rows = [row for row in ROWS if plain_truth(condition, row) in (2, "error")]
            rows = [row for row in rows if plain_truth(other, row) != 2]
            self.assertEqual(escape(condition, other), rows[0] if rows else None)

    def test_alike(self):
        self.assertIs(alike(("not", ("not", ("equal", 0, 1))), ("equal", 0, 1)), True)
        self.assertIs(alike(("below", 0, 1), ("equal", 0, 0)), True)
        self.assertIs(alike(("not", ("below", 0, 0)), ALWAYS), False)
        self.assertIs(alike(("quotient", 0, 1, 1), ("quotient", 0, 1, 1)), True)
        self.assertIs(alike(("or", ALWAYS, ("quotient", 0, 1, 1)), ALWAYS), True)
        self.assertIs(alike(("or", ("quotient", 0, 1, 1), ALWAYS), ALWAYS), False)
