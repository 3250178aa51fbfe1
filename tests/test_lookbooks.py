from bookstogether.lookbooks import LookBook

from tests.bookcase import BookCase
from tests.samples import WORLD

PLAIN = "looks tells no counts looked"


class TestLookBook(BookCase):
    BOOK = LookBook
    PART = "looks"

    def test_the_plain_book(self):
        book = LookBook()
        self.assertEqual(LookBook.MOST, 4)
        self.assertEqual((book.claims, book.tells, book.counts), ((), False, "looked"))

    def test_fields(self):
        book = LookBook(("i", 9), ("j", 1), tells=True, counts="found")
        self.assertEqual((book.claims, book.tells, book.counts), ((("i", 9), ("j", 1)), True, "found"))

    def test_bounds(self):
        self.assertEqual(len(LookBook(*[(name, 2) for name in "ijkl"]).claims), 4)
        self.invalid(*[(name, 2) for name in "ijklm"])
        self.invalid(("i", 1), ("j", 1), ("i", 2))
        for most in (0, 10, -1, 100):
            self.invalid(("i", 1), ("j", most))
        for most in (1, 9):
            self.assertEqual(LookBook(("i", most)).claims, (("i", most),))
        for name in ("", "on", "set", "new", "I", "i1", "abcdefghi", "-"):
            self.invalid((name, 1))

    def test_options(self):
        for counts in ("", "all", "looks", "Found", None):
            self.invalid(counts=counts)

    def test_it_fits_every_world(self):
        self.assertIsNone(LookBook().check(WORLD))
        self.assertIsNone(LookBook(("nowhere", 3), tells=True, counts="found").check(WORLD))

    def test_lines(self):
        self.assertEqual(LookBook().lines(), [PLAIN])
        self.assertIs(self.same_lines([PLAIN]).tells, False)
        lines = ["looks tells yes counts found", "claim i 9", "claim j 1"]
        self.assertEqual(LookBook(("i", 9), ("j", 1), tells=True, counts="found").lines(), lines)
        book = self.same_lines(lines)
        self.assertEqual((book.claims, book.counts), ((("i", 9), ("j", 1)), "found"))
        self.assertIs(book.tells, True)

    def test_bad_lines(self):
        self.bad_first_lines(PLAIN)
        self.bad_line(0, "looks tells False counts looked")
        self.bad_line(0, "looks counts looked tells no")
        for line in (
            "", "claim", "claim i", "claim i 10", "claim i 01", "claim i -1", "claim i ?", "claim i one", "claim i +",
            "claim 1 i", "claim - 1", "claim new 1", "claim i 1 1", "claim i 1 ", " claim i 1", "claim  i 1",
            "claims i 1", PLAIN,
        ):
            self.bad_line(1, PLAIN, line)
            self.bad_line(2, PLAIN, "claim i 1", line, "strange")
        self.no_lines()

    def test_a_claim_of_0_and_of_each_digit(self):
        self.invalid_lines(PLAIN, "claim i 0")
        for most in range(1, 10):
            self.same_lines([PLAIN, f"claim i {most}"])

    def test_bad_lines_come_before_an_invalid_book(self):
        for lines in ([PLAIN, "claim i 0"], [PLAIN, "claim i 1", "claim i 2"], [PLAIN] + ["claim i 1"] * 5):
            self.invalid_lines(*lines)
            self.bad_line(len(lines), *lines, "claim j 10")
