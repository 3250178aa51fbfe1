import itertools
import unittest

from bookstogether.logbooks import LogBook
from bookstogether.logjudge import judge_log

from tests.samples import WORLD


def all_books():
    options = (LogBook.WHEN, LogBook.WHAT, LogBook.KEPT, LogBook.CONFIRM, LogBook.CUT)
    for when, what, kept, confirm, cut in itertools.product(*options):
        yield LogBook(when=when, what=what, kept=kept, confirm=confirm, cut=cut)


class TestJudge(unittest.TestCase):
    def test_books_that_are_right(self):
        self.assertEqual(judge_log(WORLD, LogBook()), ())
        for when in LogBook.WHEN:
            for confirm in ("with", "behind"):
                for cut in ("never", "least"):
                    book = LogBook(when=when, kept="logged", confirm=confirm, cut=cut)
                    self.assertEqual(judge_log(WORLD, book), ())
        self.assertEqual(judge_log(WORLD, LogBook(when="begin", what="statement")), ())

    def test_each_finding_alone(self):
        self.assertEqual(judge_log(WORLD, LogBook(confirm="ahead")), (("ahead",),))
        self.assertEqual(judge_log(WORLD, LogBook(cut="greatest")), (("cut",),))
        self.assertEqual(judge_log(WORLD, LogBook(what="statement", confirm="behind")), (("again",),))
        self.assertEqual(judge_log(WORLD, LogBook(what="statement", when="write")), (("undo",),))

    def test_the_order_of_several_findings(self):
        book = LogBook(when="write", what="statement", confirm="ahead", cut="greatest")
        self.assertEqual(judge_log(WORLD, book), (("ahead",), ("cut",), ("undo",)))
        book = LogBook(when="write", what="statement", confirm="behind", cut="greatest")
        self.assertEqual(judge_log(WORLD, book), (("cut",), ("again",), ("undo",)))

    def test_all_books(self):
        for book in all_books():
            statement = book.what == "statement"
            wanted = {
                ("ahead",): book.confirm == "ahead", ("cut",): book.cut == "greatest",
                ("again",): statement and book.confirm == "behind", ("undo",): statement and book.when == "write",
            }
            self.assertEqual(judge_log(WORLD, book), tuple(finding for finding, due in wanted.items() if due))
