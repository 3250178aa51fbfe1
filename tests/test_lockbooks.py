from bookstogether.lockbooks import LockBook

from tests.bookcase import BookCase
from tests.samples import WORLD

PLAIN = "locks read alone write store marks holding checks key kept node asks ahead lasts end clash wait"
WORDS = {
    "read": ("alone", "store", "table", "road", "rows"),
    "write": ("store", "table", "row"),
    "marks": ("holding", "written"),
    "checks": ("key", "none"),
    "kept": ("node", "none"),
    "asks": ("ahead", "behind"),
    "lasts": ("end", "turn"),
    "clash": ("wait", "age", "back"),
}


class TestLockBook(BookCase):
    BOOK = LockBook
    PART = "locks"

    def test_the_plain_book(self):
        book = LockBook()
        for name, words in WORDS.items():
            self.assertEqual(getattr(book, name), words[0])

    def test_each_word_of_each_option(self):
        for name, words in WORDS.items():
            for word in words:
                chosen = {"read": "store", name: word}
                book = LockBook(**chosen)
                self.assertEqual(getattr(book, name), word)
                others = {other: getattr(book, other) for other in WORDS if other not in chosen}
                self.assertEqual(others, {other: WORDS[other][0] for other in others})

    def test_words_that_are_none(self):
        every = {word for words in WORDS.values() for word in words} | {"", "strange", "Store", None}
        for name, words in WORDS.items():
            for word in every - set(words):
                self.invalid(**{"read": "store", name: word})

    def test_alone_writes_the_store(self):
        for write in ("table", "row"):
            self.invalid(write=write)
            self.invalid(read="alone", write=write, clash="age")
            for read in ("store", "table", "road", "rows"):
                self.assertEqual(LockBook(read=read, write=write).write, write)

    def test_options_are_passed_by_keyword(self):
        with self.assertRaises(TypeError):
            LockBook("alone")

    def test_it_fits_every_world(self):
        self.assertIsNone(LockBook().check(WORLD))
        self.assertIsNone(LockBook(read="rows", write="row", lasts="turn", checks="none").check(WORLD))

    def test_lines(self):
        self.assertEqual(LockBook().lines(), [PLAIN])
        self.same_lines([PLAIN])
        line = "locks read rows write row marks written checks none kept none asks behind lasts turn clash back"
        book = self.same_lines([line])
        self.assertEqual([getattr(book, name) for name in WORDS], [words[-1] for words in WORDS.values()])

    def test_each_word_in_a_line(self):
        for name, words in WORDS.items():
            for word in words:
                line = LockBook(**{"read": "store", name: word}).lines()
                self.assertIn(f" {name} {word}", line[0])
                self.assertEqual(getattr(self.same_lines(line), name), word)

    def test_bad_lines(self):
        self.bad_first_lines(PLAIN)
        self.bad_line(0, PLAIN.replace("locks", "looks"))
        self.bad_line(0, PLAIN.replace("read alone write store", "write store read alone"))
        self.bad_line(0, PLAIN.replace("write store", "write road"))
        self.bad_line(0, PLAIN.replace("lasts end", "lasts behind"))
        self.no_lines()

    def test_a_further_line_is_a_bad_line(self):
        for line in (PLAIN, "", "strange"):
            self.bad_line(1, PLAIN, line)
            self.bad_line(1, PLAIN, line, line)
        self.bad_line(0, PLAIN + " ", PLAIN)

    def test_alone_with_other_writes_in_a_line(self):
        line = PLAIN.replace("write store", "write table")
        self.invalid_lines(line)
        # All lines are read before the book is built.
        self.bad_line(1, line, line)
