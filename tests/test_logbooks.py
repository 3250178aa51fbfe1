from bookstogether.logbooks import LogBook

from tests.bookcase import BookCase
from tests.samples import WORLD

PLAIN = "log when end what image kept own confirm with cut never"
WORDS = {
    "when": ("end", "begin", "write"),
    "what": ("image", "statement"),
    "kept": ("own", "logged"),
    "confirm": ("with", "behind", "ahead"),
    "cut": ("never", "least", "greatest"),
}


class TestLogBook(BookCase):
    BOOK = LogBook
    PART = "log"

    def test_the_plain_book(self):
        book = LogBook()
        for name, words in WORDS.items():
            self.assertEqual(getattr(book, name), words[0])

    def test_the_words(self):
        for name, words in WORDS.items():
            self.assertEqual(getattr(LogBook, name.upper()), words)
            self.assertEqual(getattr(LogBook(), name.upper()), words)

    def test_each_word_of_each_option(self):
        for name, words in WORDS.items():
            for word in words:
                book = LogBook(**{name: word})
                self.assertEqual(getattr(book, name), word)
                others = {other: getattr(book, other) for other in WORDS if other != name}
                self.assertEqual(others, {other: WORDS[other][0] for other in others})

    def test_words_that_are_none(self):
        every = {word for words in WORDS.values() for word in words} | {"", "strange", "End", None}
        for name, words in WORDS.items():
            for word in every - set(words):
                self.invalid(**{name: word})

    def test_options_are_passed_by_keyword(self):
        with self.assertRaises(TypeError):
            LogBook("end")

    def test_it_fits_every_world(self):
        self.assertIsNone(LogBook().check(WORLD))
        self.assertIsNone(LogBook(when="write", what="statement", confirm="behind", cut="greatest").check(WORLD))

    def test_lines(self):
        self.assertEqual(LogBook().lines(), [PLAIN])
        self.same_lines([PLAIN])
        book = self.same_lines(["log when write what statement kept logged confirm ahead cut greatest"])
        self.assertEqual([getattr(book, name) for name in WORDS], [words[-1] for words in WORDS.values()])

    def test_each_word_in_a_line(self):
        for name, words in WORDS.items():
            for word in words:
                line = LogBook(**{name: word}).lines()
                self.assertIn(f" {name} {word}", line[0])
                self.assertEqual(getattr(self.same_lines(line), name), word)

    def test_bad_lines(self):
        self.bad_first_lines(PLAIN)
        self.bad_line(0, PLAIN.replace("log", "locks"))
        self.bad_line(0, PLAIN.replace("when end what image", "what image when end"))
        self.bad_line(0, PLAIN.replace("what image", "what end"))
        self.bad_line(0, PLAIN.replace("cut never", "cut -"))
        self.no_lines()

    def test_a_further_line_is_a_bad_line(self):
        for line in (PLAIN, "", "strange"):
            self.bad_line(1, PLAIN, line)
            self.bad_line(1, PLAIN, line, line)
        self.bad_line(0, PLAIN + " ", PLAIN)
