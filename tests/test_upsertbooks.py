import unittest

from bookstogether.errors import InvalidBook, InvalidText
from bookstogether.upsertbooks import UpsertBook

from tests.samples import WORLD, numbered

PLAIN = "upserts again yes sees shown tells after"


class TestUpsertBook(unittest.TestCase):
    def invalid(self, *arbiters, **options):
        with self.assertRaises(InvalidBook) as caught:
            UpsertBook(*arbiters, **options)
        self.assertEqual(caught.exception.part, "upserts")

    def test_the_plain_book(self):
        book = UpsertBook()
        self.assertEqual(UpsertBook.MOST, 4)
        self.assertEqual((book.arbiters, book.again, book.sees, book.tells), ((), True, "shown", "after"))
        self.assertEqual((len(book), list(book)), (0, []))

    def test_fields(self):
        book = UpsertBook(("p", "i"), ("r", "j"), again=False, sees="all", tells="asked")
        self.assertEqual(book.arbiters, (("p", "i"), ("r", "j")))
        self.assertEqual((book.again, book.sees, book.tells), (False, "all", "asked"))

    def test_arbiters(self):
        book = UpsertBook(("r", "i"), ("p", "j"), ("q", "i"))
        self.assertEqual([book.arbiter(name) for name in "pqri"], ["j", "i", "i", ""])
        self.assertIn("p", book)
        self.assertNotIn("i", book)
        self.assertNotIn(("r", "i"), book)
        self.assertEqual(len(book), 3)
        self.assertEqual(list(book), [("r", "i"), ("p", "j"), ("q", "i")])

    def test_bounds(self):
        self.assertEqual(len(UpsertBook(*[(name, "i") for name in "pqrs"])), 4)
        self.invalid(*[(name, "i") for name in "pqrst"])
        self.invalid(("p", "i"), ("q", "i"), ("p", "j"))
        self.invalid(("p", "i"), ("p", "i"))

    def test_options(self):
        for word in ("", "hidden", "SHOWN", None, "after"):
            self.invalid(sees=word)
        for word in ("", "before", "shown"):
            self.invalid(tells=word)

    def test_check(self):
        self.assertIsNone(UpsertBook().check(WORLD))
        # The indexes need not exist.
        self.assertIsNone(UpsertBook(("q", "nowhere"), ("r", "nowhere")).check(WORLD))
        for arbiters in ([("x", "i")], [("a", "i")], [("p", "on")], [("p", "")], [("p", "i"), ("q", "I")]):
            with self.assertRaises(InvalidBook) as caught:
                UpsertBook(*arbiters).check(WORLD)
            self.assertEqual(caught.exception.part, "upserts")

    def test_lines(self):
        self.assertEqual(UpsertBook().lines(), [PLAIN])
        book = UpsertBook(("q", "i"), ("p", "j"), again=False, sees="all", tells="asked")
        lines = ["upserts again no sees all tells asked", "arbiter q i", "arbiter p j"]
        self.assertEqual(book.lines(), lines)
        again = UpsertBook.from_lines(numbered(*lines))
        self.assertEqual(again.lines(), lines)
        self.assertEqual((again.arbiters, again.again), (book.arbiters, False))
        self.assertIs(UpsertBook.from_lines(numbered(PLAIN)).again, True)

    def test_bad_lines(self):
        for lines, line in (
            ([""], 4),
            (["arbiter p i"], 4),
            (["upserts"], 4),
            (["upserts again yes sees shown"], 4),
            ([PLAIN + " more"], 4),
            ([PLAIN + " "], 4),
            (["upserts again  yes sees shown tells after"], 4),
            (["upserts again true sees shown tells after"], 4),
            (["upserts again yes sees some tells after"], 4),
            (["upserts again yes sees after tells after"], 4),
            (["upserts again yes tells after sees shown"], 4),
            (["indexes again yes sees shown tells after"], 4),
            ([PLAIN, PLAIN], 5),
            ([PLAIN, "arbiter p i", "arbiter q"], 6),
            ([PLAIN, "arbiter p i", "arbiter q i j"], 6),
            ([PLAIN, "arbiter p i", "arbiter set i"], 6),
            ([PLAIN, "arbiter p -"], 5),
            ([PLAIN, "", "arbiter p  i"], 5),
            ([PLAIN, "arbiter p i ", ""], 5),
        ):
            with self.assertRaises(InvalidText, msg=lines) as caught:
                UpsertBook.from_lines(numbered(*lines, start=4))
            self.assertEqual(caught.exception.line, line, lines)

    def test_no_lines(self):
        with self.assertRaises(InvalidText) as caught:
            UpsertBook.from_lines([])
        self.assertEqual(caught.exception.line, 0)

    def test_bad_lines_come_before_an_invalid_book(self):
        twice = [PLAIN, "arbiter p i", "arbiter p j"]
        with self.assertRaises(InvalidBook) as caught:
            UpsertBook.from_lines(numbered(*twice))
        self.assertEqual(caught.exception.part, "upserts")
        with self.assertRaises(InvalidText) as caught:
            UpsertBook.from_lines(numbered(*twice, "arbiter"))
        self.assertEqual(caught.exception.line, 4)
        with self.assertRaises(InvalidBook):
            UpsertBook.from_lines(numbered(PLAIN, *[f"arbiter {name} i" for name in "pqrst"]))

    def test_lists_are_new(self):
        book = UpsertBook(("p", "i"))
        book.lines().clear()
        self.assertEqual(len(book.lines()), 2)
        lines = numbered(PLAIN, "arbiter p i")
        UpsertBook.from_lines(lines)
        self.assertEqual(lines, numbered(PLAIN, "arbiter p i"))
