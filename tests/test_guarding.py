import unittest

from bookstogether.conditions import check_condition
from bookstogether.errors import InvalidCondition
from bookstogether.guarding import certain, guarded
from bookstogether.hidingbooks import HidingBook
from bookstogether.words import write_condition

from tests.samples import ALWAYS, NEVER, ROWS, chances, deep, plain_outcome, random_condition


def levels(condition):
    return 1 + max([levels(part) for part in condition if isinstance(part, tuple)], default=0)


def wide(count):
    """A condition of so many levels in which each part is as deep as it can be."""
    condition = ("below", 0, 1)
    for at in range(count - 1):
        condition = (("and", "or")[at % 2], condition, condition)
    return condition


class TestCertain(unittest.TestCase):
    def both(self, condition):
        self.certain(condition, True)
        self.certain(condition, False)

    def certain(self, condition, turned):
        made = certain(condition, turned=turned)
        check_condition(made, levels=levels(condition) + 2, quotients=False)
        wanted = "false" if turned else "true"
        for row in ROWS:
            expected = "true" if plain_outcome(condition, row) == wanted else "false"
            self.assertEqual(plain_outcome(made, row), expected, (condition, turned, row))

    def test_simple_conditions(self):
        for condition in (ALWAYS, ("unknown", 1), ("equal", 2, 0), ("below", 0, 2), ("below", 1, 0)):
            self.both(condition)
            self.both(("not", condition))
            self.both(("not", ("not", condition)))

    def test_turned_is_false_by_itself(self):
        self.assertEqual(certain(ALWAYS), certain(ALWAYS, turned=False))
        self.assertNotEqual(certain(ALWAYS), certain(ALWAYS, turned=True))

    def test_unknown_parts(self):
        for word in ("and", "or"):
            for left in (("equal", 0, 1), ("not", ("equal", 0, 1)), ALWAYS, NEVER):
                for right in (("below", 1, 2), ("not", ("below", 1, 2)), ("unknown", 0)):
                    self.both((word, left, right))

    def test_all_levels(self):
        for count in range(1, 7):
            self.both(deep(count))
            self.both(wide(count))

    def test_against_plain_truths(self):
        for chance in chances(150, "certain"):
            self.both(random_condition(chance, 6))


class TestGuarded(unittest.TestCase):
    RULE = (1, "a", ("below", 0, 1))

    def test_without_a_rule(self):
        book = HidingBook(self.RULE, first="ask")
        for user, table in ((0, "a"), (1, "b"), (2, "b")):
            for condition in (ALWAYS, deep(9), deep(10), ("quotient", 0, 1, 2)):
                question = ("sum", table, condition, 1, "s")
                self.assertEqual(guarded(book, user, question), question)

    def test_the_condition_alone_is_another_one(self):
        book = HidingBook((0, "a", NEVER), self.RULE)
        for question in (
            ("rows", "a", ("equal", 1, 1), "i"),
            ("count", "a", ("quotient", 1, 2, 0), ""),
            ("sum", "a", ALWAYS, 2, "s"),
            ("greatest", "a", deep(9), 0, "s"),
        ):
            told = guarded(book, 1, question)
            self.assertEqual(told[:2] + told[3:], question[:2] + question[3:])
            word, left, right = told[2]
            self.assertEqual((word, right), ("and", question[2]))
            for row in ROWS:
                self.assertEqual(plain_outcome(left, row), "true" if row[0] == 0 else "false")

    def test_levels(self):
        book = HidingBook((1, "a", wide(6)))
        told = guarded(book, 1, ("rows", "a", deep(9), ""))
        check_condition(told[2])
        for condition in (deep(10), ("not", deep(9)), deep(11)):
            with self.assertRaises(InvalidCondition):
                guarded(book, 1, ("rows", "a", condition, ""))

    def test_the_text_of_a_long_one(self):
        # The new condition can be written and read like any other one.
        book = HidingBook((1, "a", wide(6)), first="ask")
        told = guarded(book, 1, ("count", "a", deep(9), ""))
        self.assertTrue(write_condition(told[2]).startswith("and "))
