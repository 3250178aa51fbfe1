import unittest

from bookstogether import statements
from bookstogether.errors import InvalidCondition, InvalidName, InvalidRow, InvalidStatement
from bookstogether.errors import UnknownRule, UnknownTable
from bookstogether.statements import check_statement, is_question

from tests.samples import ALWAYS, WORLD, deep

ROW = (0, None, 2)
BAD_ROW = (0, 1)
BAD = ("equal", 0, None)

RIGHT = [
    ("put", "a", ROW),
    ("change", "b", ALWAYS, 2, None),
    ("change", "b", ("quotient", 0, 1, 2), 0, 0),
    ("remove", "a", deep(10)),
    ("upsert", "a", ROW, (), ()),
    ("upsert", "a", ROW, ("q", "p"), ((2, None), (0, "new"), (1, 1))),
    ("rows", "a", ALWAYS, ""),
    ("rows", "a", ALWAYS, "someone"),
    ("count", "b", ALWAYS, "p"),
    ("sum", "b", ALWAYS, 0, ""),
    ("greatest", "a", ALWAYS, 2, "x"),
]

# Each with the error that is named first, though later parts are wrong, too.
WRONG = [
    ((), InvalidStatement),
    ((0, "a", ROW), InvalidStatement),
    ((("put",), "a", ROW), InvalidStatement),
    (("get", "x", ROW), InvalidStatement),
    (("put",), InvalidStatement),
    (("put", "x"), InvalidStatement),
    (("put", "x", BAD_ROW, 0), InvalidStatement),
    (("change", "x", BAD, 5), InvalidStatement),
    (("remove", "x", BAD, ""), InvalidStatement),
    (("upsert", "x", BAD_ROW, ("x",)), InvalidStatement),
    (("rows", "x", BAD), InvalidStatement),
    (("rows", "x", BAD, 0, ""), InvalidStatement),
    (("count", "x", BAD, 0, ""), InvalidStatement),
    (("sum", "x", BAD, ""), InvalidStatement),
    (("greatest", "x", BAD, ""), InvalidStatement),
    (("put", "x", BAD_ROW), UnknownTable),
    (("change", "x", BAD, 5, 5), UnknownTable),
    (("upsert", "x", BAD_ROW, ("x",), ((5, 5),)), UnknownTable),
    (("rows", "x", BAD, "ON"), UnknownTable),
    (("put", "a", BAD_ROW), InvalidRow),
    (("put", "a", (0, 1, 3)), InvalidRow),
    (("upsert", "a", BAD_ROW, ("x",), ((5, 5),)), InvalidRow),
    (("change", "a", BAD, 5, 5), InvalidCondition),
    (("change", "a", deep(11), 0, 0), InvalidCondition),
    (("remove", "a", ()), InvalidCondition),
    (("rows", "a", deep(11), "ON"), InvalidCondition),
    (("sum", "a", BAD, 5, "ON"), InvalidCondition),
    (("change", "a", ALWAYS, 3, 5), InvalidStatement),
    (("change", "a", ALWAYS, None, 0), InvalidStatement),
    (("change", "a", ALWAYS, 0, 3), InvalidStatement),
    (("change", "a", ALWAYS, 0, "new"), InvalidStatement),
    (("sum", "a", ALWAYS, 3, "ON"), InvalidStatement),
    (("greatest", "a", ALWAYS, -1, "ON"), InvalidStatement),
    (("upsert", "a", ROW, ("p", "x", "r"), ((5, 5),)), UnknownRule),
    (("upsert", "a", ROW, ("p", "p", "x"), ((5, 5),)), InvalidStatement),
    (("upsert", "a", ROW, ("r", "x"), ()), InvalidStatement),
    (("upsert", "a", ROW, ("p", "r"), ()), InvalidStatement),
    (("upsert", "a", ROW, (), ((3, 0),)), InvalidStatement),
    (("upsert", "a", ROW, (), ((None, 0),)), InvalidStatement),
    (("upsert", "a", ROW, (), ((0, 3),)), InvalidStatement),
    (("upsert", "a", ROW, (), ((0, "old"),)), InvalidStatement),
    (("upsert", "a", ROW, (), ((0, 1), (1, 1), (0, "new"))), InvalidStatement),
    (("rows", "a", ALWAYS, "set"), InvalidName),
    (("rows", "a", ALWAYS, "-"), InvalidName),
    (("count", "a", ALWAYS, "abcdefghi"), InvalidName),
    (("sum", "a", ALWAYS, 0, "A"), InvalidName),
    (("greatest", "a", ALWAYS, 0, "a b"), InvalidName),
]


class TestStatements(unittest.TestCase):
    def test_words(self):
        self.assertEqual(statements.QUESTIONS, ("rows", "count", "sum", "greatest"))
        self.assertEqual(statements.WRITES, ("put", "change", "remove", "upsert"))

    def test_is_question(self):
        self.assertEqual([is_question(statement) for statement in RIGHT], [False] * 6 + [True] * 5)
        self.assertIs(is_question(RIGHT[0]), False)
        self.assertIs(is_question(RIGHT[-1]), True)
        self.assertIs(is_question(()), False)

    def test_right_ones(self):
        for statement in RIGHT:
            self.assertIsNone(check_statement(WORLD, statement), statement)

    def test_wrong_ones_with_the_first_error(self):
        for statement, error in WRONG:
            with self.assertRaises(error, msg=statement) as caught:
                check_statement(WORLD, statement)
            self.assertIs(type(caught.exception), error, statement)

    def fields(self, statement):
        with self.assertRaises(ValueError) as caught:
            check_statement(WORLD, statement)
        return caught.exception.name

    def test_fields_of_the_errors(self):
        self.assertEqual(self.fields(("put", "x", ROW)), "x")
        self.assertEqual(self.fields(("upsert", "a", ROW, ("p", "y", "z"), ())), "y")
        self.assertEqual(self.fields(("rows", "a", ALWAYS, "new")), "new")

    def test_an_earlier_rule_comes_before_a_later_one(self):
        with self.assertRaises(UnknownRule):
            check_statement(WORLD, ("upsert", "a", ROW, ("x", "r"), ()))
        with self.assertRaises(InvalidStatement):
            check_statement(WORLD, ("upsert", "a", ROW, ("r", "x"), ()))
