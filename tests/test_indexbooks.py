import unittest

from bookstogether.errors import InvalidBook, InvalidText, UnknownIndex
from bookstogether.indexbooks import Index, IndexBook, index_group
from bookstogether.words import write_condition
from bookstogether.worlds import World

from tests.samples import ALWAYS, ROWS, WORLD, deep, numbered

PLAIN = "indexes writes both serves implied"


def index(name="i", table="a", column=0, condition=ALWAYS, rule=""):
    return Index(name, table, column, condition, rule)


def fields(one):
    return (one.name, one.table, one.column, one.condition, one.rule)


class TestIndex(unittest.TestCase):
    def test_fields(self):
        self.assertEqual(fields(Index("i", "a", 2, ALWAYS)), ("i", "a", 2, ALWAYS, ""))
        self.assertEqual(fields(Index("i", "a", 2, ALWAYS, "p")), ("i", "a", 2, ALWAYS, "p"))

    def test_of_rule(self):
        self.assertEqual(fields(Index.of_rule(("q", "a", 1, ("equal", 2, 1)))), ("q", "a", 1, ("equal", 2, 1), "q"))

    def test_as_rule(self):
        self.assertEqual(Index("i", "a", 2, ALWAYS, "p").as_rule, ("p", "a", 2, ALWAYS))
        self.assertEqual(Index("i", "a", 2, ALWAYS).as_rule, ("", "a", 2, ALWAYS))
        self.assertEqual(Index.of_rule(WORLD.rules[1]).as_rule, WORLD.rules[1])

    def test_holds(self):
        one = index(condition=("below", 1, 1))
        self.assertIs(one.holds((2, 0, 2)), True)
        self.assertIs(one.holds((2, 1, 2)), False)
        self.assertIs(one.holds((2, None, 2)), False)
        self.assertEqual([row for row in ROWS if one.holds(row)], [row for row in ROWS if row[1] == 0])

    def test_index_group(self):
        one = index(column=2, condition=("below", 1, 1))
        self.assertEqual(index_group(one, (0, 0, 2)), 2)
        self.assertEqual(index_group(one, (0, 0, 0)), 0)
        self.assertIsNone(index_group(one, (0, 0, None)))
        self.assertIsNone(index_group(one, (0, 1, 2)))


class TestIndexBook(unittest.TestCase):
    def test_the_plain_book(self):
        book = IndexBook()
        self.assertEqual(IndexBook.MOST, 6)
        self.assertEqual((book.indexes, book.writes, book.serves), ((), "both", "implied"))

    def test_bounds(self):
        self.assertEqual(len(IndexBook(*[index(name) for name in "ijklmn"]).indexes), 6)
        with self.assertRaises(InvalidBook) as caught:
            IndexBook(*[index(name) for name in "ijklmno"])
        self.assertEqual(caught.exception.part, "indexes")

    def test_options(self):
        for writes in ("both", "column", "put"):
            self.assertEqual(IndexBook(writes=writes).writes, writes)
        for serves in ("implied", "possible", "true"):
            self.assertEqual(IndexBook(serves=serves).serves, serves)
        for options in ({"writes": "all"}, {"writes": ""}, {"serves": "false"}, {"serves": True}):
            with self.assertRaises(InvalidBook) as caught:
                IndexBook(**options)
            self.assertEqual(caught.exception.part, "indexes")

    def test_of_world(self):
        book = IndexBook.of_world(WORLD)
        self.assertEqual([fields(one) for one in book.indexes], [(*rule, rule[0]) for rule in WORLD.rules])
        self.assertEqual((book.writes, book.serves), ("both", "implied"))
        self.assertIsNone(book.check(WORLD))
        self.assertEqual(IndexBook.of_world(World(("a", "b"))).indexes, ())

    def test_finding_indexes(self):
        one, two, three = index("i", rule="p"), index("j", "b"), index("k", rule="q")
        book = IndexBook(one, two, three)
        self.assertEqual(book.indexes, (one, two, three))
        self.assertIs(book.index("j"), two)
        self.assertIs(book.holder("q"), three)
        self.assertIs(book.holder(""), two)
        self.assertIsNone(book.holder("r"))
        self.assertIsNone(book.holder("i"))
        self.assertEqual(book.of_table("a"), (one, three))
        self.assertEqual(book.of_table("c"), ())
        with self.assertRaises(UnknownIndex) as caught:
            book.index("p")
        self.assertEqual(caught.exception.name, "p")


class TestCheck(unittest.TestCase):
    RULED = [index("i", rule="p"), index("j", rule="q"), index("k", "b", rule="r")]

    def misfit(self, *indexes):
        with self.assertRaises(InvalidBook) as caught:
            IndexBook(*indexes).check(WORLD)
        self.assertEqual(caught.exception.part, "indexes")

    def test_fitting_books(self):
        for indexes in ([], self.RULED, self.RULED[::-1], [*self.RULED, index("l", condition=deep(6))]):
            self.assertIsNone(IndexBook(*indexes).check(WORLD))
        self.assertIsNone(IndexBook(index()).check(World(("a", "b"))))

    def test_names(self):
        for name in ("", "on", "I", "abcdefghi"):
            self.misfit(*self.RULED, index(name))
        self.misfit(*self.RULED, index("i"))
        self.misfit(*self.RULED, index("l"), index("l"))

    def test_tables_columns_and_conditions(self):
        self.misfit(*self.RULED, index("l", "c"))
        self.misfit(*self.RULED, index("l", column=3))
        self.misfit(*self.RULED, index("l", column=None))
        self.misfit(*self.RULED, index("l", condition=deep(7)))
        self.misfit(*self.RULED, index("l", condition=("quotient", 0, 1, 2)))
        self.misfit(*self.RULED, index("l", condition=("equal", 0, None)))

    def test_rules(self):
        self.misfit(*self.RULED, index("l", rule="x"))
        # Rule r is one of table b.
        self.misfit(index("i", rule="p"), index("j", rule="q"), index("k", "a", rule="r"))
        self.misfit(*self.RULED, index("l", rule="p"))
        self.misfit(*self.RULED[:2])
        self.misfit(index("l"))


class TestLines(unittest.TestCase):
    LINES = ["indexes writes put serves possible", "index i a 2 - always", "index j b 0 p not unknown 1"]

    def test_lines(self):
        self.assertEqual(IndexBook().lines(), [PLAIN])
        book = IndexBook(
            index("i", column=2), index("j", "b", 0, ("not", ("unknown", 1)), "p"), writes="put", serves="possible"
        )
        self.assertEqual(book.lines(), self.LINES)

    def test_from_lines(self):
        book = IndexBook.from_lines(numbered(*self.LINES))
        self.assertEqual(book.lines(), self.LINES)
        self.assertEqual((book.writes, book.serves), ("put", "possible"))
        told = [fields(one) for one in book.indexes]
        self.assertEqual(told, [("i", "a", 2, ALWAYS, ""), ("j", "b", 0, ("not", ("unknown", 1)), "p")])

    def test_bad_lines(self):
        for lines, line in (
            ([""], 7),
            (["indexes"], 7),
            (["indexes writes both"], 7),
            (["indexes writes both serves implied "], 7),
            (["indexes serves implied writes both"], 7),
            (["indexes writes all serves implied"], 7),
            (["indexes writes both serves both"], 7),
            (["upserts writes both serves implied"], 7),
            ([PLAIN, PLAIN], 8),
            ([PLAIN, "index i a 0 -"], 8),
            ([PLAIN, "index i a 0 always"], 8),
            ([PLAIN, "index i a 3 - always"], 8),
            ([PLAIN, "index i a 00 - always"], 8),
            ([PLAIN, "index i a ? - always"], 8),
            ([PLAIN, "index - a 0 - always"], 8),
            ([PLAIN, "index i - 0 - always"], 8),
            ([PLAIN, "index i a 0 set always"], 8),
            ([PLAIN, "index i a 0 - always always"], 8),
            ([PLAIN, "index i  a 0 - always"], 8),
            ([PLAIN, "index i a 0 - always", "index i a 0 - never", ""], 9),
            ([PLAIN, "index i a 0 - " + write_condition(deep(11))], 8),
        ):
            with self.assertRaises(InvalidText, msg=lines) as caught:
                IndexBook.from_lines(numbered(*lines, start=7))
            self.assertEqual(caught.exception.line, line, lines)

    def test_no_lines(self):
        with self.assertRaises(InvalidText) as caught:
            IndexBook.from_lines([])
        self.assertEqual(caught.exception.line, 0)

    def test_bad_lines_come_before_an_invalid_book(self):
        many = [PLAIN] + ["index i a 0 - always"] * 7
        with self.assertRaises(InvalidBook) as caught:
            IndexBook.from_lines(numbered(*many))
        self.assertEqual(caught.exception.part, "indexes")
        with self.assertRaises(InvalidText) as caught:
            IndexBook.from_lines(numbered(*many, "index"))
        self.assertEqual(caught.exception.line, 9)

    def test_whether_it_fits_a_world_is_not_looked_at(self):
        lines = [PLAIN, "index i x 0 y " + write_condition(deep(10)), "index i x 0 y quotient 0 1 2"]
        self.assertEqual(IndexBook.from_lines(numbered(*lines)).lines(), lines)
