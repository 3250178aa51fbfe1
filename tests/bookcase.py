"""What the tests of all books share."""

import unittest

from bookstogether.errors import InvalidBook, InvalidText

from tests.samples import numbered


class BookCase(unittest.TestCase):
    """A test of the class BOOK of the books of the part PART."""

    BOOK = None
    PART = ""

    def invalid(self, *things, **options):
        """The book cannot be built."""
        with self.assertRaises(InvalidBook, msg=(things, options)) as caught:
            self.BOOK(*things, **options)
        self.assertEqual(caught.exception.part, self.PART)

    def misfit(self, world, *things, **options):
        """The book can be built but does not fit the world."""
        with self.assertRaises(InvalidBook, msg=(things, options)) as caught:
            self.BOOK(*things, **options).check(world)
        self.assertEqual(caught.exception.part, self.PART)

    def invalid_lines(self, *lines):
        """The lines have their form but make no book."""
        with self.assertRaises(InvalidBook, msg=lines) as caught:
            self.BOOK.from_lines(numbered(*lines))
        self.assertEqual(caught.exception.part, self.PART)

    def bad_line(self, line, *lines):
        """The line of this index is the first one that does not have the form; the first line has the number 5."""
        with self.assertRaises(InvalidText, msg=lines) as caught:
            self.BOOK.from_lines(numbered(*lines, start=5))
        self.assertEqual(caught.exception.line, 5 + line, lines)

    def bad_first_lines(self, plain):
        """Of a plain line each word counts, and so does each blank."""
        words = plain.split(" ")
        for at in range(len(words)):
            self.bad_line(0, " ".join(words[:at] + words[at + 1:]))
            self.bad_line(0, " ".join(words[:at] + ["strange"] + words[at + 1:]))
            self.bad_line(0, " ".join(words[:at] + [words[at], words[at]] + words[at + 1:]))
            self.bad_line(0, " ".join(words[:at] + ["", words[at]] + words[at + 1:]))
        for line in ("", " ", plain + " ", plain + " strange", " " + plain, plain.upper(), plain.replace(" ", "\n")):
            self.bad_line(0, line)

    def no_lines(self):
        """There must be a line."""
        with self.assertRaises(InvalidText) as caught:
            self.BOOK.from_lines([])
        self.assertEqual(caught.exception.line, 0)

    def same_lines(self, lines):
        """Reading the lines gives a book that is written so."""
        book = self.BOOK.from_lines(numbered(*lines))
        self.assertEqual(book.lines(), lines)
        # Neither the lines that were handed in nor those that are returned belong to the book.
        book.lines().clear()
        self.assertEqual(book.lines(), lines)
        return book
