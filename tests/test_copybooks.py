import itertools

from bookstogether.copybooks import CopyBook

from tests.bookcase import BookCase
from tests.samples import WORLD

PLAIN = "copies served no marks - promises - hides yes indexes own summaries own"
WORDS = ("own", "seen", "main")
TUPLES = [(), ("own",), ("seen",), ("main",), ("own", "seen"), ("own", "main"), ("seen", "main"), WORDS]


class TestCopyBook(BookCase):
    BOOK = CopyBook
    PART = "copies"

    def fields(self, book):
        return (book.served, book.marks, book.promises, book.hides, book.indexes, book.summaries)

    def test_the_plain_book(self):
        self.assertEqual(self.fields(CopyBook()), (False, (), (), True, "own", "own"))
        self.assertEqual((CopyBook.INDEXES, CopyBook.SUMMARIES), (("own", "start"), ("own", "main")))

    def test_each_choice_of_each_option(self):
        for options in (
            {"served": True}, {"hides": False}, {"indexes": "start"}, {"summaries": "main"},
            *[{"marks": words} for words in TUPLES], *[{"promises": words} for words in TUPLES],
        ):
            book = CopyBook(**options)
            for name, chosen in options.items():
                self.assertEqual(getattr(book, name), chosen)
            for name in {"served", "marks", "promises", "hides", "indexes", "summaries"} - set(options):
                self.assertEqual(getattr(book, name), getattr(CopyBook(), name))

    def test_words_that_are_none(self):
        for word in ("main", "strange", "", None, "Own"):
            self.invalid(indexes=word)
        for word in ("start", "strange", "", None, "Main"):
            self.invalid(summaries=word)

    def test_marks_and_promises_in_their_order_each_once(self):
        for size in range(4):
            for words in itertools.product(("own", "seen", "main", "start"), repeat=size):
                if words in TUPLES:
                    self.assertEqual(CopyBook(marks=words, promises=words).marks, words)
                else:
                    self.invalid(marks=words)
                    self.invalid(promises=words, marks=("own",))
        self.invalid(marks=("own", "seen", "main", "own"))
        self.invalid(marks=("",))

    def test_options_are_passed_by_keyword(self):
        with self.assertRaises(TypeError):
            CopyBook(True)

    def test_it_fits_every_world(self):
        self.assertIsNone(CopyBook().check(WORLD))
        self.assertIsNone(CopyBook(served=True, promises=WORDS, hides=False, summaries="main").check(WORLD))

    def test_kept_by(self):
        for marks, kept in (
            ((), ()), (("own",), ("own",)), (("seen",), ("seen",)), (("main",), ("own", "main")),
            (("own", "seen"), ("own", "seen")), (("own", "main"), ("own", "main")), (("seen", "main"), WORDS),
            (WORDS, WORDS),
        ):
            self.assertEqual(CopyBook.kept_by(marks), kept)
            self.assertEqual(CopyBook(marks=()).kept_by(marks), kept)

    def test_lines(self):
        self.assertEqual(CopyBook().lines(), [PLAIN])
        self.same_lines([PLAIN])
        line = "copies served yes marks own seen main promises own main hides no indexes start summaries main"
        book = self.same_lines([line])
        self.assertEqual(self.fields(book), (True, WORDS, ("own", "main"), False, "start", "main"))

    def test_each_tuple_of_marks_in_a_line(self):
        for marks in TUPLES:
            for promises in TUPLES:
                lines = CopyBook(marks=marks, promises=promises, served=True).lines()
                book = self.same_lines(lines)
                self.assertEqual((book.marks, book.promises), (marks, promises))

    def test_bad_lines(self):
        self.bad_first_lines(PLAIN)
        self.bad_first_lines("copies served yes marks seen promises main hides no indexes start summaries main")
        for words in (
            "seen own", "own own", "main own", "main seen", "own seen own", "strange", "own strange", "- own", "own -",
            "- -", "", "own  seen", "own seen main main", "OWN", "start",
        ):
            self.bad_line(0, PLAIN.replace("marks -", f"marks {words}"))
            self.bad_line(0, PLAIN.replace("promises -", f"promises {words}"))
        self.bad_line(0, PLAIN.replace("marks - promises", "marks promises"))
        self.bad_line(0, PLAIN.replace("promises - hides", "promises hides"))
        self.bad_line(0, PLAIN.replace("served no", "served -"))
        self.bad_line(0, PLAIN.replace("hides yes", "hides True"))
        self.bad_line(0, PLAIN.replace("indexes own", "indexes main"))
        self.bad_line(0, PLAIN.replace("summaries own", "summaries start"))
        self.bad_line(0, PLAIN.replace("marks - promises -", "promises - marks -"))
        self.no_lines()

    def test_a_further_line_is_a_bad_line(self):
        for line in (PLAIN, "", "strange"):
            self.bad_line(1, PLAIN, line)
            self.bad_line(1, PLAIN, line, line)
        self.bad_line(0, PLAIN + " ", PLAIN)
