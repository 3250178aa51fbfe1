import unittest

from bookstogether.errors import ZeroDivisor
from bookstogether.hidingbooks import HidingBook
from bookstogether.passing import counted, passes

from tests.samples import ALWAYS, ROWS, chances, plain_outcome, plain_shown, random_condition, random_rules

RULE = (1, "a", ("below", 1, 1))
SHOWN, HIDDEN = (2, 0, 2), (2, 1, 2)


class TestPasses(unittest.TestCase):
    def test_shown_and_true(self):
        for first in ("hide", "ask"):
            book = HidingBook(RULE, first=first)
            self.assertIs(passes(book, 1, "a", SHOWN, ALWAYS), True)
            self.assertIs(passes(book, 1, "a", HIDDEN, ALWAYS), False)
            self.assertIs(passes(book, 1, "a", SHOWN, ("equal", 0, 0)), False)
            self.assertIs(passes(book, 1, "a", (None, 0, 0), ("equal", 0, 0)), False)
            self.assertIs(passes(book, 1, "a", (0, None, 0), ("equal", 0, 0)), False)

    def test_other_users_and_tables(self):
        for first in ("hide", "ask"):
            book = HidingBook(RULE, first=first)
            self.assertIs(passes(book, 0, "a", HIDDEN, ALWAYS), True)
            self.assertIs(passes(book, 1, "b", HIDDEN, ALWAYS), True)

    def test_a_hidden_row_that_divides_by_0(self):
        zero = ("quotient", 1, 2, 0)
        self.assertIs(passes(HidingBook(RULE, first="hide"), 1, "a", (0, 1, 0), zero), False)
        with self.assertRaises(ZeroDivisor):
            passes(HidingBook(RULE, first="ask"), 1, "a", (0, 1, 0), zero)

    def test_a_shown_row_that_divides_by_0(self):
        for first in ("hide", "ask"):
            with self.assertRaises(ZeroDivisor):
                passes(HidingBook(RULE, first=first), 1, "a", (0, 0, 0), ("quotient", 1, 2, 0))

    def test_against_plain_truths(self):
        for chance in chances(40, "passes"):
            rules = random_rules(chance)
            condition = random_condition(chance, 3, quotients=True)
            book = HidingBook(*rules, first=chance.choice(("hide", "ask")))
            user, table = chance.randrange(3), chance.choice("ab")
            for row in ROWS:
                shown = plain_shown(rules, user, table, row)
                told = plain_outcome(condition, row)
                if told == "error" and (shown or book.first == "ask"):
                    with self.assertRaises(ZeroDivisor):
                        passes(book, user, table, row, condition)
                else:
                    self.assertIs(passes(book, user, table, row, condition), shown and told == "true")


class TestCounted(unittest.TestCase):
    def test_counted(self):
        rows = [SHOWN, HIDDEN, SHOWN, (0, None, 0)]
        self.assertEqual(counted(HidingBook(RULE), 1, "a", rows), 2)
        self.assertEqual(counted(HidingBook(RULE, told="all"), 1, "a", rows), 4)
        self.assertEqual(counted(HidingBook(RULE), 0, "a", rows), 4)
        self.assertEqual(counted(HidingBook(RULE), 1, "b", rows), 4)
        self.assertEqual(counted(HidingBook(RULE, first="ask"), 1, "a", ROWS), 16)
        for told in ("shown", "all"):
            self.assertEqual(counted(HidingBook(RULE, told=told), 1, "a", []), 0)
