import unittest

from bookstogether.bookshelf import PARTS, Books
from bookstogether.copybooks import CopyBook
from bookstogether.errors import InvalidBook
from bookstogether.hidingbooks import HidingBook
from bookstogether.indexbooks import Index, IndexBook
from bookstogether.lockbooks import LockBook
from bookstogether.logbooks import LogBook
from bookstogether.lookbooks import LookBook
from bookstogether.summarybooks import Summary, SummaryBook
from bookstogether.upsertbooks import UpsertBook

from tests.bookmaker import some_books, some_world
from tests.samples import ALWAYS, WORLD, chances

CLASSES = {
    "upserts": UpsertBook, "indexes": IndexBook, "locks": LockBook, "hiding": HidingBook, "looks": LookBook,
    "summaries": SummaryBook, "log": LogBook, "copies": CopyBook,
}
# For each part a book that is not the plain one, and one that does not fit the world.
OTHERS = {
    "upserts": UpsertBook(again=False), "indexes": IndexBook.of_world(WORLD), "locks": LockBook(read="store"),
    "hiding": HidingBook(told="all"), "looks": LookBook(tells=True), "summaries": SummaryBook(undo="image"),
    "log": LogBook(when="begin"), "copies": CopyBook(served=True),
}
MISFITS = {
    "upserts": UpsertBook(("zz", "i")), "indexes": IndexBook(Index("i", "a", 0, ALWAYS)),
    "hiding": HidingBook((0, "zz", ALWAYS)), "summaries": SummaryBook(Summary("s", "zz", "count", 0, ALWAYS)),
}
PLAIN = [
    "upserts again yes sees shown tells after", "indexes writes both serves implied",
    "locks read alone write store marks holding checks key kept node asks ahead lasts end clash wait",
    "hiding first hide told shown", "looks tells no counts looked",
    "summaries alike shown undo difference greatest write", "log when end what image kept own confirm with cut never",
    "copies served no marks - promises - hides yes indexes own summaries own",
]


def are(books, chosen):
    """Whether the books are the chosen ones, and plain ones in all other parts."""
    for part, plain in zip(PARTS, PLAIN):
        book = books.book(part)
        if book is not getattr(books, part) or not isinstance(book, CLASSES[part]):
            return False
        if part in chosen and book is not chosen[part]:
            return False
        if part not in chosen and book.lines() != [plain]:
            return False
    return True


class TestBooks(unittest.TestCase):
    def invalid(self, part, call, *things, **options):
        with self.assertRaises(InvalidBook) as caught:
            call(*things, **options)
        self.assertEqual(caught.exception.part, part)

    def test_the_parts(self):
        self.assertEqual(PARTS, ("upserts", "indexes", "locks", "hiding", "looks", "summaries", "log", "copies"))

    def test_parts_that_are_left_out_have_plain_books(self):
        self.assertTrue(are(Books(), {}))
        for part in PARTS:
            self.assertTrue(are(Books(**{part: OTHERS[part]}), {part: OTHERS[part]}))
            self.assertTrue(are(Books(**{part: None}), {}))
        self.assertTrue(are(Books(**OTHERS), OTHERS))

    def test_books_are_passed_by_keyword(self):
        with self.assertRaises(TypeError):
            Books(UpsertBook())

    def test_book(self):
        books = Books(**OTHERS)
        for part in PARTS:
            self.assertIs(books.book(part), OTHERS[part])
        for part in ("", "strange", "Locks", "book"):
            self.invalid(part, books.book, part)

    def test_only(self):
        books = Books(**OTHERS)
        self.assertTrue(are(books.only(), {}))
        self.assertTrue(are(books.only("locks"), {"locks": OTHERS["locks"]}))
        chosen = {part: OTHERS[part] for part in ("log", "upserts")}
        self.assertTrue(are(books.only("log", "upserts"), chosen))
        self.assertTrue(are(books.only(*PARTS), OTHERS))
        self.assertTrue(are(books, OTHERS))
        self.assertTrue(are(Books().only("locks"), {}))

    def test_only_of_a_word_that_is_no_part(self):
        self.invalid("strange", Books().only, "strange")
        self.invalid("x", Books().only, "locks", "x", "y")

    def test_altered(self):
        books = Books(log=OTHERS["log"])
        self.assertTrue(are(books.altered(), {"log": OTHERS["log"]}))
        changed = books.altered(locks=OTHERS["locks"], log=LogBook(cut="least"))
        self.assertEqual(changed.log.cut, "least")
        self.assertIs(changed.locks, OTHERS["locks"])
        self.assertTrue(are(books, {"log": OTHERS["log"]}))
        self.invalid("strange", books.altered, strange=LogBook())
        self.invalid("x", books.altered, log=LogBook(), x=LogBook(), y=LogBook())

    def test_check(self):
        self.assertIsNone(Books().check(WORLD))
        self.assertIsNone(Books(**OTHERS).check(WORLD))
        for part, book in MISFITS.items():
            self.invalid(part, Books(**{**OTHERS, part: book}).check, WORLD)

    def test_the_first_part_that_does_not_fit(self):
        for at, part in enumerate(MISFITS):
            later = {other: book for other, book in list(MISFITS.items())[at:]}
            self.invalid(part, Books(**later).check, WORLD)

    def test_a_summary_with_the_name_of_an_index(self):
        summaries = SummaryBook(Summary("s", "a", "count", 0, ALWAYS), Summary("q", "b", "count", 0, ALWAYS))
        books = Books(indexes=OTHERS["indexes"], summaries=summaries)
        self.invalid("summaries", books.check, WORLD)
        self.assertIsNone(books.only("summaries").check(WORLD))
        self.assertIsNone(books.only("indexes").check(WORLD))
        # What is wrong with a book alone comes first.
        self.invalid("hiding", books.altered(hiding=MISFITS["hiding"]).check, WORLD)

    def test_lines(self):
        self.assertEqual(Books().lines(), PLAIN)
        hiding = HidingBook((0, "a", ("unknown", 1)), first="ask")
        books = Books(hiding=hiding, upserts=UpsertBook(("p", "p")))
        lines = PLAIN[:1] + ["arbiter p p"] + PLAIN[1:3] + ["hiding first ask told shown", "hide 0 a unknown 1"]
        self.assertEqual(books.lines(), lines + PLAIN[4:])
        books.lines().clear()
        self.assertEqual(len(books.lines()), 10)

    def test_selections_of_many_books(self):
        for chance in chances(30, "selections"):
            world = some_world(chance)
            books = some_books(chance, world)
            books.check(world)
            parts = chance.sample(PARTS, chance.randrange(len(PARTS) + 1))
            selection = books.only(*parts)
            self.assertTrue(are(selection, {part: books.book(part) for part in parts}))
            selection.check(world)
