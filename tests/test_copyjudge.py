import itertools
import unittest

from bookstogether.copybooks import CopyBook
from bookstogether.copyjudge import judge_copies, least_marks

from tests.samples import WORLD
from tests.test_copybooks import TUPLES


def all_books():
    for marks, promises in itertools.product(TUPLES, TUPLES):
        yield CopyBook(served=True, marks=marks, promises=promises)


class TestJudge(unittest.TestCase):
    def test_books_that_are_right(self):
        self.assertEqual(judge_copies(WORLD, CopyBook()), ())
        self.assertEqual(judge_copies(WORLD, CopyBook(served=True)), ())
        self.assertEqual(judge_copies(WORLD, CopyBook(served=True, hides=False, indexes="start", summaries="main")), ())
        self.assertEqual(judge_copies(WORLD, CopyBook(served=True, marks=("main",), promises=("own", "main"))), ())

    def test_copies_that_do_not_answer_break_nothing(self):
        self.assertEqual(judge_copies(WORLD, CopyBook(promises=("own", "seen", "main"))), ())

    def test_promises_that_are_not_kept(self):
        promises = ("own", "seen", "main")
        for marks, found in (
            ((), promises), (("own",), ("seen", "main")), (("seen",), ("own", "main")), (("main",), ("seen",)),
            (("own", "seen"), ("main",)), (("seen", "main"), ()), (promises, ()),
        ):
            book = CopyBook(served=True, marks=marks, promises=promises)
            self.assertEqual(judge_copies(WORLD, book), tuple((word,) for word in found))
        self.assertEqual(judge_copies(WORLD, CopyBook(served=True, promises=("main",))), (("main",),))


class TestLeastMarks(unittest.TestCase):
    def test_all_promises(self):
        for promises, marks in (
            ((), ()), (("own",), ("own",)), (("seen",), ("seen",)), (("main",), ("main",)),
            (("own", "seen"), ("own", "seen")), (("own", "main"), ("main",)), (("seen", "main"), ("seen", "main")),
            (("own", "seen", "main"), ("seen", "main")),
        ):
            self.assertEqual(least_marks(promises), marks)

    def test_they_keep_the_promises_and_fewer_do_not(self):
        for promises in TUPLES:
            marks = least_marks(promises)
            self.assertEqual(judge_copies(WORLD, CopyBook(served=True, marks=marks, promises=promises)), ())
            for other in TUPLES:
                if len(other) < len(marks):
                    book = CopyBook(served=True, marks=other, promises=promises)
                    self.assertNotEqual(judge_copies(WORLD, book), ())
