import unittest

from bookstogether.conditions import atom, check_condition, only, truth
from bookstogether.errors import InvalidCondition, ZeroDivisor
from bookstogether.truth import Truth

from tests.samples import ALWAYS, NEVER, ROWS, chances, deep, plain_truth, random_condition

ZERO = ("quotient", 1, 0, 1)

WRONG = [
    (),
    ("never",),
    (0,),
    (None,),
    (("always",),),
    ("always", 0),
    ("equal",),
    ("equal", 0),
    ("equal", 0, 1, 2),
    ("equal", 0, None),
    ("equal", None, 0),
    ("equal", 0, 3),
    ("equal", 3, 0),
    ("equal", -1, 0),
    ("equal", 0, -1),
    ("equal", "0", 0),
    ("equal", ALWAYS, 0),
    ("below", 0, None),
    ("below", 0, 3),
    ("below", 3, 0),
    ("below", 0),
    ("unknown",),
    ("unknown", None),
    ("unknown", 3),
    ("unknown", 0, 0),
    ("quotient", 0, 1),
    ("quotient", 0, 1, None),
    ("quotient", 0, 3, 0),
    ("quotient", 3, 0, 0),
    ("quotient", 0, None, 0),
    ("quotient", 0, 1, 3),
    ("quotient", 0, 1, 2, 0),
    ("not",),
    ("not", 0),
    ("not", ()),
    ("not", "always"),
    ("not", ALWAYS, ALWAYS),
    ("and", ALWAYS),
    ("and", ALWAYS, ALWAYS, ALWAYS),
    ("and", ALWAYS, ("equal", 0, None)),
    ("and", ("equal", 0, None), ALWAYS),
    ("or", ALWAYS),
    ("or", ALWAYS, None),
    ("or", None, ALWAYS),
    ("or", ("not", ("below", 0, 5)), ALWAYS),
]


class TestCheckCondition(unittest.TestCase):
    def test_right_ones(self):
        right = [ALWAYS, ("equal", 2, 0), ("below", 0, 2), ("unknown", 1), ("quotient", 1, 1, 0)]
        right += [("not", ALWAYS), ("and", ("unknown", 0), ZERO), ("or", ZERO, ("not", ZERO))]
        for condition in right:
            self.assertIsNone(check_condition(condition), condition)

    def test_wrong_ones(self):
        for condition in WRONG:
            with self.assertRaises(InvalidCondition, msg=condition):
                check_condition(condition)

    def test_levels(self):
        check_condition(deep(10))
        for levels in range(1, 12):
            check_condition(deep(levels), levels=levels)
            with self.assertRaises(InvalidCondition):
                check_condition(deep(levels + 1), levels=levels)
        with self.assertRaises(InvalidCondition):
            check_condition(deep(11))

    def test_the_deeper_part_counts(self):
        check_condition(("and", deep(1), deep(5)), levels=6)
        check_condition(("or", deep(5), deep(1)), levels=6)
        for condition in (("and", deep(1), deep(6)), ("or", deep(6), deep(1)), ("not", deep(6))):
            with self.assertRaises(InvalidCondition):
                check_condition(condition, levels=6)

    def test_quotients(self):
        for condition in (ZERO, ("not", ZERO), ("and", ALWAYS, ZERO), ("or", ("not", ZERO), ALWAYS)):
            check_condition(condition)
            check_condition(condition, quotients=True)
            with self.assertRaises(InvalidCondition):
                check_condition(condition, quotients=False)
        check_condition(deep(6), quotients=False, levels=6)


class TestTruthOfConditions(unittest.TestCase):
    def word(self, condition, row):
        found = truth(condition, row)
        self.assertIsInstance(found, Truth)
        return found.word

    def test_simple_ones(self):
        row = (None, 0, 2)
        self.assertEqual(self.word(ALWAYS, row), "true")
        self.assertEqual([self.word(("equal", 0, v), row) for v in (0, 1, 2)], ["unknown"] * 3)
        self.assertEqual([self.word(("equal", 1, v), row) for v in (0, 1, 2)], ["true", "false", "false"])
        self.assertEqual([self.word(("below", 0, v), row) for v in (0, 1, 2)], ["unknown"] * 3)
        self.assertEqual([self.word(("below", 1, v), row) for v in (0, 1, 2)], ["false", "true", "true"])
        self.assertEqual([self.word(("below", 2, v), row) for v in (0, 1, 2)], ["false"] * 3)
        self.assertEqual([self.word(("unknown", c), row) for c in (0, 1, 2)], ["true", "false", "false"])

    def test_quotient(self):
        condition = ("quotient", 0, 1, 2)
        self.assertEqual(self.word(condition, (2, 1, None)), "true")
        self.assertEqual(self.word(condition, (2, 2, None)), "false")
        self.assertEqual(self.word(("quotient", 0, 1, 0), (1, 2, None)), "true")
        self.assertEqual(self.word(condition, (None, 1, None)), "unknown")
        self.assertEqual(self.word(condition, (1, None, None)), "unknown")
        self.assertEqual(self.word(condition, (None, None, None)), "unknown")

    def test_quotient_by_zero_whatever_the_other_value_is(self):
        for value in (None, 0, 1, 2):
            with self.assertRaises(ZeroDivisor):
                truth(("quotient", 0, 1, 2), (value, 0, None))
        with self.assertRaises(ZeroDivisor):
            truth(("quotient", 1, 1, 1), (1, 0, 1))

    def test_quotients_that_are_not_reached(self):
        row = (0, 1, None)
        unknown = ("equal", 2, 0)
        self.assertEqual(self.word(("and", NEVER, ZERO), row), "false")
        self.assertEqual(self.word(("or", ALWAYS, ZERO), row), "true")
        reached = [ZERO, ("not", ZERO), ("and", ALWAYS, ZERO), ("and", unknown, ZERO), ("or", NEVER, ZERO)]
        reached += [("or", unknown, ZERO), ("and", ZERO, NEVER), ("or", ZERO, ALWAYS)]
        for condition in reached:
            with self.assertRaises(ZeroDivisor, msg=condition):
                truth(condition, row)

    def test_three_values(self):
        unknown = ("equal", 0, 0)
        row = (None, 0, 0)
        told = {
            ("not", unknown): "unknown",
            ("and", unknown, ALWAYS): "unknown",
            ("and", unknown, NEVER): "false",
            ("and", NEVER, unknown): "false",
            ("or", unknown, NEVER): "unknown",
            ("or", unknown, ALWAYS): "true",
            ("or", ALWAYS, unknown): "true",
        }
        for condition, word in told.items():
            self.assertEqual(self.word(condition, row), word, condition)

    def test_against_a_second_telling(self):
        for chance in chances(150, "truth"):
            condition = random_condition(chance, 5, quotients=True)
            for row in ROWS:
                expected = plain_truth(condition, row)
                if expected == "error":
                    with self.assertRaises(ZeroDivisor):
                        truth(condition, row)
                else:
                    self.assertEqual(truth(condition, row).rank, expected)


class TestAtomAndOnly(unittest.TestCase):
    def test_atom(self):
        self.assertEqual(atom(1, None), ("unknown", 1))
        self.assertEqual(atom(2, 0), ("equal", 2, 0))

    def test_only(self):
        expected = ("and", ("and", ("equal", 0, 0), ("unknown", 1)), ("equal", 2, 2))
        self.assertEqual(only((0, None, 2)), expected)
        for row in ROWS:
            check_condition(only(row), levels=3, quotients=False)
            self.assertEqual([other for other in ROWS if truth(only(row), other)], [row])
