import unittest

from bookstogether.errors import InvalidBook, UnknownSummary, ZeroDivisor
from bookstogether.summarybooks import Summary, SummaryBook, greatest_known, share_at
from bookstogether.words import write_condition

from tests.bookcase import BookCase
from tests.samples import ALWAYS, NEVER, ROWS, WORLD, chances, deep, plain_outcome, random_condition

PLAIN = "summaries alike shown undo difference greatest write"
KINDS = ("count", "sum", "greatest")


def summary(name="s", table="a", kind="sum", column=0, condition=ALWAYS):
    return Summary(name, table, kind, column, condition)


def fields(one):
    return (one.name, one.table, one.kind, one.column, one.condition)


class TestShares(unittest.TestCase):
    def test_share_at(self):
        rows = [(2, 0, 0), (0, 0, 0), (None, 0, 0), (2, 1, 0), (2, None, 0), None]
        count = ("count", "a", ("equal", 1, 0), "")
        self.assertEqual([share_at(count, row) for row in rows], [1, 1, 1, 0, 0, 0])
        total = ("sum", "a", ("equal", 1, 0), 0, "")
        self.assertEqual([share_at(total, row) for row in rows], [2, 0, 0, 0, 0, 0])
        most = ("greatest", "a", ("equal", 1, 0), 0, "")
        self.assertEqual([share_at(most, row) for row in rows], [2, 0, None, None, None, None])

    def test_division_by_0(self):
        for question in (("count", "a", ("quotient", 0, 1, 2), ""), ("sum", "a", ("quotient", 0, 1, 2), 0, "")):
            self.assertEqual(share_at(question, None), 0)
            self.assertEqual(share_at(question, (0, 1, 0)), 0)
            with self.assertRaises(ZeroDivisor):
                share_at(question, (1, 0, 0))

    def test_greatest_known(self):
        self.assertEqual(greatest_known([None, 0, 2, None, 1]), 2)
        self.assertEqual(greatest_known([0]), 0)
        self.assertEqual(greatest_known([-3, None]), -3)
        self.assertIsNone(greatest_known([None, None]))
        self.assertIsNone(greatest_known([]))


class TestSummary(unittest.TestCase):
    def test_fields(self):
        for kind in KINDS:
            self.assertEqual(fields(Summary("s", "b", kind, 2, NEVER)), ("s", "b", kind, 2, NEVER))

    def test_other_kinds(self):
        for kind in ("rows", "", "Sum", "least", None):
            with self.assertRaises(InvalidBook) as caught:
                summary(kind=kind)
            self.assertEqual(caught.exception.part, "summaries")

    def test_question(self):
        self.assertEqual(summary(kind="count", column=2).question(), ("count", "a", ALWAYS, "s"))
        self.assertEqual(summary(kind="sum", column=2).question(), ("sum", "a", ALWAYS, 2, "s"))
        self.assertEqual(summary("t", "b", "greatest", 1, NEVER).question(), ("greatest", "b", NEVER, 1, "t"))

    def test_shares_and_due_amounts(self):
        rows = [(2, 0, 1), (1, 0, None), (None, 0, 2), (2, 1, 2)]
        told = {kind: summary(kind=kind, condition=("equal", 1, 0)) for kind in KINDS}
        self.assertEqual([told["count"].share(row) for row in rows + [None]], [1, 1, 1, 0, 0])
        self.assertEqual([told["sum"].share(row) for row in rows + [None]], [2, 1, 0, 0, 0])
        self.assertEqual([told["greatest"].share(row) for row in rows + [None]], [2, 1, None, None, None])
        self.assertEqual([told[kind].due_amount(rows) for kind in KINDS], [3, 3, 2])
        self.assertEqual([told[kind].due_amount(rows[3:]) for kind in KINDS], [0, 0, None])
        self.assertEqual([told[kind].due_amount([]) for kind in KINDS], [0, 0, None])
        self.assertEqual([told[kind].due_amount(rows[:1] * 3) for kind in KINDS], [3, 6, 2])
        self.assertEqual(len(rows), 4)

    def test_against_plain_shares(self):
        for chance in chances(20, "shares"):
            condition, column = random_condition(chance, 3), chance.randrange(3)
            shares = {"count": [], "sum": [], "greatest": []}
            for row in ROWS:
                is_in = plain_outcome(condition, row) == "true"
                shares["count"].append(int(is_in))
                shares["sum"].append((row[column] or 0) if is_in else 0)
                shares["greatest"].append(row[column] if is_in else None)
            for kind in KINDS:
                one = summary(kind=kind, column=column, condition=condition)
                self.assertEqual([one.share(row) for row in ROWS], shares[kind])
            known = [share for share in shares["greatest"] if share is not None]
            self.assertEqual(one.due_amount(ROWS), max(known, default=None))


class TestSummaryBook(BookCase):
    BOOK = SummaryBook
    PART = "summaries"

    def test_the_plain_book(self):
        book = SummaryBook()
        self.assertEqual(SummaryBook.MOST, 4)
        self.assertEqual((book.summaries, book.edges), ((), ()))
        self.assertEqual((book.alike, book.undo, book.greatest), ("shown", "difference", "write"))

    def test_fields(self):
        one, two = summary("s"), summary("t", kind="greatest")
        edges = [("t", "i"), ("s", "i")]
        book = SummaryBook(one, two, edges=edges, alike="question", undo="image", greatest="stays")
        edges.clear()
        self.assertEqual((book.summaries, book.edges), ((one, two), (("t", "i"), ("s", "i"))))
        self.assertEqual((book.alike, book.undo, book.greatest), ("question", "image", "stays"))
        self.assertEqual(SummaryBook(greatest="question").greatest, "question")

    def test_finding_summaries(self):
        one, two, three = summary("s"), summary("t", "b"), summary("u")
        book = SummaryBook(one, two, three)
        self.assertIs(book.summary("t"), two)
        self.assertEqual((book.of_table("a"), book.of_table("b"), book.of_table("c")), ((one, three), (two,), ()))
        for name in ("x", "", "a"):
            with self.assertRaises(UnknownSummary) as caught:
                book.summary(name)
            self.assertEqual(caught.exception.name, name)

    def test_bounds(self):
        self.assertEqual(len(SummaryBook(*[summary(name) for name in "stuv"]).summaries), 4)
        self.invalid(*[summary(name) for name in "stuvw"])
        self.invalid(summary("s"), edges=(("s", "i"), ("t", "j"), ("s", "k")))
        self.invalid(edges=[("s", "i"), ("s", "i")])
        self.assertEqual(len(SummaryBook(edges=(("s", "i"), ("t", "i"))).edges), 2)

    def test_options(self):
        for options in (
            {"alike": "write"}, {"alike": ""}, {"undo": "shown"}, {"undo": None}, {"greatest": "image"},
            {"greatest": "stay"},
        ):
            self.invalid(**options)

    def test_check(self):
        most = [summary("s", "b", "count", 2, deep(6)), summary("t"), summary("u", kind="greatest"), summary("v")]
        self.assertIsNone(SummaryBook().check(WORLD))
        # The indexes of edges need not exist, nor need their summaries have the kind that can use them.
        self.assertIsNone(SummaryBook(*most, edges=(("u", "nowhere"), ("s", "p"))).check(WORLD))

    def test_summaries_that_do_not_fit(self):
        for one in (
            summary(""), summary("on"), summary("S"), summary("abcdefghi"), summary(table="c"), summary(table=""),
            summary(column=3), summary(column=None), summary(column=-1), summary(condition=deep(7)),
            summary(condition=("quotient", 0, 1, 2)), summary(condition=("equal", 0, None)), summary(condition=()),
        ):
            self.misfit(WORLD, one)
            self.misfit(WORLD, summary("t"), one)
        self.misfit(WORLD, summary("s"), summary("t"), summary("s", "b", "count"))

    def test_edges_that_do_not_fit(self):
        self.misfit(WORLD, edges=(("s", "i"),))
        self.misfit(WORLD, summary("s"), edges=(("t", "i"),))
        for index in ("", "on", "I", "i1"):
            self.misfit(WORLD, summary("s"), edges=(("s", index),))

    def test_lines(self):
        self.assertEqual(SummaryBook().lines(), [PLAIN])
        self.same_lines([PLAIN])
        book = SummaryBook(
            summary("s", "b", "count", 2, ("not", ("unknown", 1))), summary("t", kind="greatest"),
            edges=(("t", "i"), ("x", "j")), alike="question", undo="image", greatest="question",
        )
        lines = [
            "summaries alike question undo image greatest question", "summary s b count 2 not unknown 1",
            "summary t a greatest 0 always", "edge t i", "edge x j",
        ]
        self.assertEqual(book.lines(), lines)
        again = self.same_lines(lines)
        self.assertEqual([fields(one) for one in again.summaries], [fields(one) for one in book.summaries])
        self.assertEqual(again.edges, book.edges)
        self.assertEqual((again.alike, again.undo, again.greatest), ("question", "image", "question"))
        self.same_lines([PLAIN, "edge s i"])

    def test_bad_lines(self):
        self.bad_first_lines(PLAIN)
        self.bad_line(0, "summaries undo difference alike shown greatest write")
        for line in (
            "", "summary", "summary s a sum 0", "summary s a sum always", "summary s a sum 3 always",
            "summary s a sum 00 always", "summary s a sum ? always", "summary s a rows 0 always",
            "summary s a least 0 always", "summary s a 0 sum always", "summary s a count always",
            "summary - a sum 0 always", "summary s - sum 0 always", "summary on a sum 0 always",
            "summary s a sum 0 always always", "summary s a sum 0 never", "summary s  a sum 0 always",
            "summary s a sum 0 always ", "summary s a sum 0 " + write_condition(deep(11)), "edge", "edge s",
            "edge s i j", "edge s -", "edge - i", "edge s new", "edge  s i", "edges s i", PLAIN,
        ):
            self.bad_line(1, PLAIN, line)
            self.bad_line(2, PLAIN, "summary t a sum 0 always", line, "strange")
        self.no_lines()

    def test_a_summary_behind_an_edge(self):
        self.bad_line(2, PLAIN, "edge s i", "summary s a sum 0 always")
        self.bad_line(3, PLAIN, "summary t a sum 0 always", "edge t i", "summary s a sum 0 always", "strange")

    def test_bad_lines_come_before_an_invalid_book(self):
        for lines in ([PLAIN] + ["summary s a sum 0 always"] * 5, [PLAIN, "edge s i", "edge s j"]):
            self.invalid_lines(*lines)
            self.bad_line(len(lines), *lines, "edge")

    def test_whether_it_fits_a_world_is_not_looked_at(self):
        line = "summary s nowhere sum 0 "
        self.same_lines([PLAIN, line + write_condition(deep(10)), line + "quotient 0 1 2", "edge u i"])
