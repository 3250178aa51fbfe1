import unittest

from bookstogether.hidingbooks import HidingBook
from bookstogether.hidingjudge import judge_hiding
from bookstogether.heaps import Heap
from bookstogether.viewing import ask_table
from bookstogether.worlds import World

from tests.samples import ALWAYS, NEVER, ROWS, chances, plain_outcome, random_condition, random_rules

WORLD = World(("b", "a"))


class TestJudgeHiding(unittest.TestCase):
    def judged(self, *rules, first="ask", told="shown"):
        return judge_hiding(WORLD, HidingBook(*rules, first=first, told=told))

    def test_hiding_first_is_right(self):
        self.assertEqual(self.judged(first="hide"), ())
        self.assertEqual(self.judged((0, "a", NEVER), (1, "b", NEVER), first="hide", told="all"), ())

    def test_nothing_is_hidden(self):
        self.assertEqual(self.judged(), ())
        self.assertEqual(self.judged((0, "a", ALWAYS), told="all"), ())

    def test_hidden_rows_without_a_0(self):
        known = ("or", ("equal", 0, 0), ("or", ("equal", 1, 0), ("equal", 2, 0)))
        self.assertEqual(self.judged((0, "a", known)), ())

    def test_the_first_one(self):
        self.assertEqual(self.judged((0, "a", NEVER)), (("first", 0, "a", (None, None, 0), 2),))
        self.assertEqual(self.judged((2, "b", NEVER), (1, "a", NEVER)), (("first", 1, "a", (None, None, 0), 2),))
        self.assertEqual(self.judged((1, "a", NEVER), (1, "b", NEVER))[0][1:3], (1, "b"))
        rule = (1, "a", ("or", ("unknown", 1), ("not", ("equal", 1, 0))))
        self.assertEqual(self.judged(rule), (("first", 1, "a", (None, 0, None), 1),))
        rule = (1, "a", ("or", ("unknown", 0), ("or", ("not", ("equal", 0, 0)), ("unknown", 1))))
        self.assertEqual(self.judged(rule), (("first", 1, "a", (0, 0, None), 0),))

    def test_against_a_plain_search(self):
        found = set()
        for chance in chances(60, "hiding"):
            rules = random_rules(chance)
            expected = [
                ("first", user, table, row, column)
                for user in (0, 1, 2)
                for table in ("b", "a")
                for who, where, condition in rules
                if (who, where) == (user, table)
                for row in ROWS
                if plain_outcome(condition, row) != "true"
                for column in range(3)
                if row[column] == 0
            ]
            told = self.judged(*rules, told=chance.choice(("shown", "all")))
            self.assertEqual(told, tuple(expected[:1]))
            found.add(told[0][1] if told else None)
        self.assertEqual(found, {None, 0, 1, 2})

    def test_a_finding_is_there_exactly_if_asking_first_tells_something_else(self):
        for chance in chances(30, "told"):
            rule = (1, "a", ("or", random_condition(chance, 2), random_condition(chance, 3)))
            heap = Heap()
            for row in ROWS:
                heap.put("a", row)
            told = []
            for column in range(3):
                question = ("count", "a", ("and", ("equal", column, 0), ("quotient", 0, column, 0)), "")
                # Shown rows that divide by 0 are taken away, so only a hidden one can refuse the question.
                for number, row in heap.pairs("a"):
                    if 0 in row and plain_outcome(rule[2], row) == "true":
                        heap.write("a", number, None)
                told += [ask_table(HidingBook(rule, first=first), 1, heap, question)[0][0] for first in ("hide", "ask")]
            self.assertEqual("refused" in told, bool(self.judged(rule)))
