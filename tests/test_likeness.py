import unittest

from bookstogether.likeness import serves
from bookstogether.sights import Sight
from bookstogether.summarybooks import Summary, SummaryBook
from bookstogether.totals import Totals
from bookstogether.hidingbooks import HidingBook
from bookstogether.viewing import ask_table

from tests.samples import ALWAYS, NEVER, ROWS, chances, plain_outcome, plain_shown, random_condition, random_heap
from tests.samples import random_rules

SHOWN, QUESTION = SummaryBook(alike="shown"), SummaryBook(alike="question")
BOTH = (SHOWN, QUESTION)


def plain_share(kind, column, condition, row):
    """The share of a row, or the word `error`."""
    told = "false" if row is None else plain_outcome(condition, row)
    if told == "error":
        return told
    if kind == "count":
        return int(told == "true")
    known = row[column] if told == "true" else None
    return known or 0 if kind == "sum" else known


def plain_serves(book, summary, rules, user, question):
    if question[:2] != (summary.kind, summary.table):
        return False
    column = question[3] if len(question) == 5 else 0
    for row in ROWS:
        shown = book.alike == "question" or plain_shown(rules, user, summary.table, row)
        asked = plain_share(summary.kind, column, question[2], row if shown else None)
        if asked != plain_share(summary.kind, summary.column, summary.condition, row):
            return False
    return True


class TestServes(unittest.TestCase):
    def told(self, summary, question, sight=Sight(), user=1):
        """Whether it serves under `shown` and under `question`."""
        told = [serves(book, summary, sight, user, question) for book in BOTH]
        self.assertTrue(all(isinstance(one, bool) for one in told))
        return told

    def test_its_own_question(self):
        for kind in ("count", "sum", "greatest"):
            summary = Summary("s", "a", kind, 1, ("below", 0, 2))
            self.assertEqual(self.told(summary, summary.question()), [True, True])

    def test_other_kinds_and_tables(self):
        summary = Summary("s", "a", "sum", 1, NEVER)
        self.assertEqual(self.told(summary, ("sum", "a", NEVER, 2, "")), [True, True])
        self.assertEqual(self.told(summary, ("sum", "b", NEVER, 1, "")), [False, False])
        self.assertEqual(self.told(summary, ("count", "a", NEVER, "")), [False, False])
        self.assertEqual(self.told(summary, ("greatest", "a", NEVER, 1, "")), [False, False])
        self.assertEqual(self.told(summary, ("rows", "a", NEVER, "s")), [False, False])

    def test_by_makes_no_difference(self):
        summary = Summary("s", "a", "count", 0, ALWAYS)
        for by in ("", "s", "t"):
            self.assertEqual(self.told(summary, ("count", "a", ALWAYS, by)), [True, True])

    def test_shares_decide(self):
        summary = Summary("s", "a", "sum", 1, ("not", ("equal", 1, 0)))
        # The rows with a 0, and those with an unknown value, have the share 0 in any case.
        self.assertEqual(self.told(summary, ("sum", "a", ALWAYS, 1, "")), [True, True])
        self.assertEqual(self.told(summary, ("sum", "a", ALWAYS, 0, "")), [False, False])
        summary = Summary("s", "a", "greatest", 1, ("not", ("equal", 1, 0)))
        self.assertEqual(self.told(summary, ("greatest", "a", ALWAYS, 1, "")), [False, False])
        self.assertEqual(self.told(summary, ("greatest", "a", ("below", 2, 2), 1, "")), [False, False])
        summary = Summary("s", "a", "greatest", 1, ("not", ("unknown", 1)))
        self.assertEqual(self.told(summary, ("greatest", "a", ALWAYS, 1, "")), [True, True])

    def test_the_column_of_a_count_makes_no_difference(self):
        for column in range(3):
            summary = Summary("s", "a", "count", column, ALWAYS)
            self.assertEqual(self.told(summary, ("count", "a", ALWAYS, "")), [True, True])

    def test_hidden_rows(self):
        sight = Sight((1, "a", ("equal", 0, 0)))
        every, few = Summary("s", "a", "count", 0, ALWAYS), Summary("t", "a", "count", 0, ("equal", 0, 0))
        question = ("count", "a", ALWAYS, "")
        self.assertEqual(self.told(every, question, sight), [False, True])
        self.assertEqual(self.told(few, question, sight), [True, False])
        self.assertEqual(self.told(few, ("count", "a", ("equal", 0, 0), ""), sight), [True, True])
        self.assertEqual(self.told(every, question, sight, user=0), [True, True])

    def test_a_sight_that_hides_all_rows(self):
        sight = Sight((1, "a", NEVER))
        for kind, rest in (("count", ("",)), ("sum", (2, "")), ("greatest", (2, ""))):
            question = (kind, "a", ALWAYS, *rest)
            self.assertEqual(self.told(Summary("s", "a", kind, 2, NEVER), question, sight), [True, False])
            self.assertEqual(self.told(Summary("s", "a", kind, 2, ALWAYS), question, sight), [False, True])

    def test_division_by_0(self):
        # It divides by 0 in a row whose share would be the same.
        summary = Summary("s", "a", "count", 0, NEVER)
        question = ("count", "a", ("and", ("quotient", 0, 1, 0), NEVER), "")
        self.assertEqual(self.told(summary, question), [False, False])
        sight = Sight((1, "a", ("not", ("equal", 1, 0))))
        self.assertEqual(self.told(summary, question, sight), [True, False])
        self.assertEqual(self.told(summary, question, sight, user=2), [False, False])

    def test_against_a_plain_search(self):
        found = set()
        for chance in chances(300, "serves"):
            kind, column = chance.choice(("count", "sum", "greatest")), chance.randrange(2)
            rules, user, book = random_rules(chance), chance.randrange(3), chance.choice(BOTH)
            condition = random_condition(chance, 2)
            held = chance.choice((condition, ("and", condition, rules[0][2] if rules else ALWAYS)))
            summary = Summary("s", chance.choice("aaab"), kind, chance.randrange(2), held)
            asked = chance.choice((condition, ("not", ("not", condition)), random_condition(chance, 2, True)))
            question = (kind, "a", asked, *((column,) if kind != "count" else ()), "")
            told = serves(book, summary, Sight(*rules), user, question)
            self.assertIs(told, plain_serves(book, summary, rules, user, question))
            found.add((book.alike, told))
        self.assertEqual(len(found), 4)

    def test_a_summary_that_serves_tells_what_the_table_tells(self):
        served = 0
        for chance in chances(80, "due"):
            kind = chance.choice(("count", "sum", "greatest"))
            hiding, condition = random_condition(chance, 2), random_condition(chance, 2)
            summary = Summary("s", "a", kind, 1, ("and", hiding, condition))
            question = (kind, "a", condition, *((1,) if kind != "count" else ()), "")
            book = HidingBook((1, "a", hiding))
            if serves(SHOWN, summary, book.sight, 1, question):
                served += 1
                heap = random_heap(chance, 12)
                totals = Totals(SummaryBook(summary), heap)
                tell, _ = ask_table(book, 1, heap, question)
                self.assertEqual(tell, (kind, totals.current("s")))
        self.assertGreater(served, 60)
