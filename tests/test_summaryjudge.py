import unittest

from bookstogether.summarybooks import Summary, SummaryBook
from bookstogether.summaryjudge import judge_summaries

from tests.samples import ALWAYS, NEVER, ROWS, WORLD, chances, plain_outcome, random_condition


class TestJudge(unittest.TestCase):
    def test_books_that_are_right(self):
        top = Summary("top", "a", "greatest", 0, ALWAYS)
        self.assertEqual(judge_summaries(WORLD, SummaryBook()), ())
        self.assertEqual(judge_summaries(WORLD, SummaryBook(greatest="stays")), ())
        for greatest in ("write", "question"):
            for alike in ("shown", "question"):
                for undo in ("difference", "image"):
                    book = SummaryBook(top, alike=alike, undo=undo, greatest=greatest)
                    self.assertEqual(judge_summaries(WORLD, book), ())

    def test_a_greatest_value_that_stays(self):
        top = Summary("top", "a", "greatest", 1, ALWAYS)
        self.assertEqual(judge_summaries(WORLD, SummaryBook(top, greatest="stays")),
                         (("stays", "top", (None, 0, None)),))
        top = Summary("top", "b", "greatest", 2, ("equal", 0, 2))
        self.assertEqual(judge_summaries(WORLD, SummaryBook(top, greatest="stays")), (("stays", "top", (2, None, 0)),))

    def test_counts_and_sums_and_empty_summaries_do_no_harm(self):
        counts = [Summary("many", "a", "count", 0, ALWAYS), Summary("all", "a", "sum", 0, ALWAYS)]
        self.assertEqual(judge_summaries(WORLD, SummaryBook(*counts, greatest="stays")), ())
        empty = [Summary("none", "a", "greatest", 0, NEVER), Summary("free", "a", "greatest", 0, ("unknown", 0))]
        self.assertEqual(judge_summaries(WORLD, SummaryBook(*counts, *empty, greatest="stays")), ())

    def test_the_first_summary_and_its_first_row(self):
        empty = Summary("none", "a", "greatest", 0, ("unknown", 0))
        late = Summary("late", "b", "greatest", 0, ("equal", 0, 2))
        early = Summary("early", "a", "greatest", 0, ALWAYS)
        book = SummaryBook(empty, late, early, greatest="stays")
        self.assertEqual(judge_summaries(WORLD, book), (("stays", "late", (2, None, None)),))

    def test_compared_with_a_plain_search(self):
        for chance in chances(60, "stays"):
            summaries = [
                Summary(name, chance.choice(("a", "b")), chance.choice(("count", "sum", "greatest")),
                        chance.randrange(3), ("and", random_condition(chance, 3), random_condition(chance, 2)))
                for name in ("k", "l", "m", "n")
            ]
            wanted = [
                (("stays", one.name, row),) for one in summaries for row in ROWS
                if one.kind == "greatest" and row[one.column] is not None and plain_outcome(one.condition,
                                                                                            row) == "true"
            ]
            found = judge_summaries(WORLD, SummaryBook(*summaries, greatest="stays"))
            self.assertEqual(found, wanted[0] if wanted else ())
