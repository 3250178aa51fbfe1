from bookstogether.hidingbooks import HidingBook
from bookstogether.words import write_condition

from tests.bookcase import BookCase
from tests.samples import ALWAYS, NEVER, WORLD, deep

PLAIN = "hiding first hide told shown"
RULES = [(user, table, ALWAYS) for user in (0, 1, 2) for table in ("a", "b")]


class TestHidingBook(BookCase):
    BOOK = HidingBook
    PART = "hiding"

    def test_the_plain_book(self):
        book = HidingBook()
        self.assertEqual(HidingBook.MOST, 6)
        self.assertEqual((book.rules, book.first, book.told), ((), "hide", "shown"))
        self.assertEqual((len(book), list(book)), (0, []))
        self.assertIs(book.sight(0, "a", (0, 0, 0)), True)

    def test_fields(self):
        rules = ((1, "a", ("equal", 0, 0)), (0, "b", NEVER))
        book = HidingBook(*rules, first="ask", told="all")
        self.assertEqual((book.rules, book.first, book.told), (rules, "ask", "all"))
        self.assertEqual(book.sight.rules, rules)
        self.assertIs(book.sight(1, "a", (0, 1, 1)), True)
        self.assertIs(book.sight(1, "a", (1, 1, 1)), False)
        self.assertEqual((len(book), list(book)), (2, list(rules)))

    def test_in(self):
        book = HidingBook((1, "a", ALWAYS), (0, "b", NEVER))
        self.assertIn((1, "a"), book)
        self.assertIn((0, "b"), book)
        for place in ((0, "a"), (1, "b"), (2, "a"), (1, "c")):
            self.assertNotIn(place, book)

    def test_bounds(self):
        self.assertEqual(len(HidingBook(*RULES)), 6)
        self.invalid(*RULES, (0, "c", ALWAYS))
        self.invalid((0, "a", ALWAYS), (1, "a", ALWAYS), (0, "a", NEVER))
        self.assertEqual(len(HidingBook((0, "a", ALWAYS), (1, "a", ALWAYS), (0, "b", ALWAYS))), 3)

    def test_options(self):
        for first in ("", "shown", "Hide", None):
            self.invalid(first=first)
        for told in ("", "hide", "none"):
            self.invalid(told=told)

    def test_check(self):
        for rules in ([], RULES, [(2, "b", deep(6))]):
            self.assertIsNone(HidingBook(*rules).check(WORLD))
        for rule in (
            (3, "a", ALWAYS), (-1, "a", ALWAYS), (None, "a", ALWAYS), (0, "c", ALWAYS), (0, "", ALWAYS),
            (0, "a", deep(7)), (0, "a", ("quotient", 0, 1, 0)), (0, "a", ("not", ("quotient", 0, 1, 0))),
            (0, "a", ("equal", 0, None)),
            (0, "a", ("equal", 3, 0)), (0, "a", ()), (0, "a", ("strange",)),
        ):
            self.misfit(WORLD, rule)
            self.misfit(WORLD, (1, "b", ALWAYS), rule)

    def test_lines(self):
        self.assertEqual(HidingBook().lines(), [PLAIN])
        self.same_lines([PLAIN])
        book = HidingBook((2, "b", ("not", ("unknown", 1))), (0, "a", ALWAYS), first="ask", told="all")
        lines = ["hiding first ask told all", "hide 2 b not unknown 1", "hide 0 a always"]
        self.assertEqual(book.lines(), lines)
        again = self.same_lines(lines)
        self.assertEqual((again.rules, again.first, again.told), (book.rules, "ask", "all"))

    def test_bad_lines(self):
        self.bad_first_lines(PLAIN)
        self.bad_line(0, "hiding told shown first hide")
        for line in (
            "", "hide", "hide 0", "hide 0 a", "hide 3 a always", "hide 00 a always", "hide ? a always",
            "hide - a always", "hide a 0 always", "hide 0 on always", "hide 0 - always", "hide 0 a never",
            "hide 0 a always always",
            "hide 0 a always ", "hide  0 a always", " hide 0 a always", "hide 0 a equal 0", "hide 0 a equal 0 3",
            "hiding first hide told shown", "rule 0 a always", "hide 0 a " + write_condition(deep(11)),
        ):
            self.bad_line(1, PLAIN, line)
            self.bad_line(2, PLAIN, "hide 1 a always", line, "strange")
        self.no_lines()

    def test_bad_lines_come_before_an_invalid_book(self):
        twice = [PLAIN, "hide 0 a always", "hide 0 a unknown 1"]
        self.invalid_lines(*twice)
        self.bad_line(3, *twice, "hide 0 a")
        self.invalid_lines(PLAIN, *[f"hide {user} {table} always" for user, table, _ in RULES], "hide 0 c always")

    def test_whether_it_fits_a_world_is_not_looked_at(self):
        self.same_lines([PLAIN, "hide 0 nowhere " + write_condition(deep(10)), "hide 1 a quotient 0 1 2"])
