import unittest

from bookstogether.errors import (
    InvalidCondition, InvalidName, InvalidRow, InvalidStatement, InvalidTurn, UnknownRule, UnknownTable,
)
from bookstogether.turns import check_turn, take_turn, write_turn
from bookstogether.words import LineReader

from tests.bookmaker import some_books, some_turn, some_world
from tests.samples import ALWAYS, WORLD, chances, deep

COUNT = ("count", "a", ALWAYS, "")
GOOD = [
    (("do", 0, ("put", "a", (0, None, 2))), "do 0 put a 0 ? 2"),
    (("do", 2, COUNT), "do 2 count a - always"),
    (("do", 1, ("upsert", "a", (0, 0, 0), ("p",), ((1, "new"),))), "do 1 upsert a 0 0 0 on p set 1 new"),
    (("end", 0), "end 0"), (("end", 2), "end 2"), (("back", 1), "back 1"), (("follow", 0), "follow 0"),
    (("follow", 1), "follow 1"), (("confirm", 1), "confirm 1"), (("stop", 0), "stop 0"), (("cut",), "cut"),
    (("ask", 2, 1, ("greatest", "b", ("equal", 0, 1), 2, "top")), "ask 2 1 greatest b 2 top equal 0 1"),
    (("ask", 0, 0, ("rows", "a", ALWAYS, "")), "ask 0 0 rows a - always"),
]
NO_TURNS = [
    (), ("do",), ("do", 0), ("do", 3, COUNT), ("do", -1, COUNT), ("do", None, COUNT), ("do", 0, COUNT, 0), ("end",),
    ("end", 3), ("end", 0, 0), ("back",), ("back", -1), ("back", "0"), ("follow",), ("follow", 2), ("follow", 0, 0),
    ("confirm", -1), ("stop", 2), ("stop",), ("cut", 0), ("ask", 0, 0), ("ask", 0, 2, COUNT), ("ask", 3, 0, COUNT),
    ("ask", 0, COUNT), ("ask", 0, 0, COUNT, 0), ("strange",), ("", 0), ("move", 0), ("Do", 0, COUNT),
]


class TestCheckTurn(unittest.TestCase):
    def caught(self, turn, at=7, world=WORLD):
        with self.assertRaises(InvalidTurn, msg=turn) as caught:
            check_turn(world, turn, at)
        self.assertEqual(caught.exception.at, at)
        return caught.exception.__cause__

    def test_turns(self):
        for turn, _ in GOOD:
            self.assertIsNone(check_turn(WORLD, turn, 3))

    def test_what_is_no_turn_has_no_cause(self):
        for turn in NO_TURNS:
            self.assertIsNone(self.caught(turn), turn)
            self.assertIsNone(self.caught(turn, at=0), turn)

    def test_a_wrong_statement_is_the_cause(self):
        for statement, error in (
            ((), InvalidStatement), (("strange", "a"), InvalidStatement), (("put", "a"), InvalidStatement),
            (("put", "zz", (0, 0, 0)), UnknownTable), (("put", "a", (0, 0)), InvalidRow),
            (("count", "a", ("equal", 0, 3), ""), InvalidCondition), (("count", "a", deep(11), ""), InvalidCondition),
            (("sum", "a", ALWAYS, 3, ""), InvalidStatement), (("count", "a", ALWAYS, "set"), InvalidName),
            (("upsert", "a", (0, 0, 0), ("zz",), ()), UnknownRule),
        ):
            self.assertIsInstance(self.caught(("do", 1, statement)), error)
            self.assertIsInstance(self.caught(("ask", 1, 1, statement)), error)
        self.assertEqual(self.caught(("do", 1, ("put", "zz", (0, 0, 0)))).name, "zz")

    def test_a_question_that_is_none_has_no_cause(self):
        for statement in (
            ("put", "a", (0, 0, 0)), ("remove", "a", ALWAYS), ("change", "a", ALWAYS, 0, 0),
            ("upsert", "a", (0, 0, 0), (), ()),
        ):
            check_turn(WORLD, ("do", 0, statement), 0)
            self.assertIsNone(self.caught(("ask", 0, 0, statement)))
        # A statement that is not one of the world is told as such, question or not.
        self.assertIsInstance(self.caught(("ask", 0, 0, ("put", "zz", (0, 0, 0)))), UnknownTable)

    def test_a_wrong_statement_in_what_is_no_turn_has_no_cause(self):
        wrong = ("count", "zz", ALWAYS, "")
        for turn in (("do", 3, wrong), ("do", 0, wrong, 0), ("ask", 0, 2, wrong), ("ask", 3, 0, wrong),
                     ("end", 0, wrong)):
            self.assertIsNone(self.caught(turn), turn)

    def test_great_places(self):
        self.caught((), at=10 ** 20)


class TestWriteTurn(unittest.TestCase):
    def test_each_turn(self):
        for turn, line in GOOD:
            self.assertEqual(write_turn(turn), line)

    def test_what_is_written_can_be_read(self):
        for chance in chances(200, "turns"):
            world = some_world(chance)
            turn = some_turn(chance, world, some_books(chance, world))
            reader = LineReader(1, write_turn(turn))
            self.assertEqual(take_turn(reader), turn)
            reader.end()
