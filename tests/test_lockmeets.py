import unittest

from bookstogether.lockbooks import LockBook
from bookstogether.lockmeets import deed_needs, looser_at
from bookstogether.lockneeds import read_needs, write_needs
from bookstogether.names import is_name

from tests.samples import chances, plain_meet

BOOKS = [
    LockBook(read=read, write=write, checks=checks, kept=kept)
    for read in ("alone", "store", "table", "road", "rows")
    for write in (("store",) if read == "alone" else ("store", "table", "row"))
    for checks in ("key", "none")
    for kept in ("node", "none")
]

# What the deeds of each table may have.
THINGS = {
    "a": (("i", "j"), ("s", "t"), (0, 1, 2), (("key", "p", 0), ("key", "p", 1), ("key", "q", 0))),
    "b": (("k",), ("u",), (3, 4), (("key", "r", 0),)),
}


def random_deed(chance, table):
    indexes, summaries, numbers, keys = THINGS[table]
    nodes = [("index", name) for name in indexes] + [("summary", name) for name in summaries]

    def some(things):
        return tuple(chance.choice(things) for _ in range(chance.randrange(3)))

    if chance.randrange(2):
        return ("read", table, chance.choice([("table",)] + nodes), some(numbers))
    return ("write", table, chance.choice(numbers), some(nodes), some(keys))


def deeds_meet(book, first, second):
    return plain_meet(deed_needs(book, first), deed_needs(book, second))


class TestDeedNeeds(unittest.TestCase):
    def test_deeds(self):
        for book in BOOKS:
            for road in (("table",), ("index", "i"), ("summary", "s")):
                needs = read_needs(book, "a", road, [2, 1])
                self.assertEqual(deed_needs(book, ("read", "a", road, (2, 1))), needs)
            nodes, keys = (("index", "i"),), (("key", "p", 0), ("key", "p", 0))
            self.assertEqual(deed_needs(book, ("write", "b", 3, nodes, keys)), write_needs(book, "b", 3, nodes, keys))


class TestLooserAt(unittest.TestCase):
    def test_no_book_is_looser_than_itself(self):
        for book in BOOKS:
            self.assertIsNone(looser_at(book, book))

    def test_alone_is_the_strictest(self):
        for book in BOOKS:
            self.assertIsNone(looser_at(LockBook(), book))
            if book.read != "alone":
                first, second = looser_at(book, LockBook())
                self.assertEqual((first[0], second[0]), ("read", "read"))

    def test_options_that_no_need_looks_at(self):
        book = LockBook(read="rows", write="row")
        other = LockBook(read="rows", write="row", marks="written", asks="behind", lasts="turn", clash="back")
        self.assertIsNone(looser_at(book, other))
        self.assertIsNone(looser_at(other, book))

    def test_keys_and_kept_nodes(self):
        for read in ("store", "table", "road", "rows"):
            strict, loose = (LockBook(read=read, write="row", checks=checks) for checks in ("key", "none"))
            self.assertIsNone(looser_at(strict, loose))
            first, second = looser_at(loose, strict)
            self.assertEqual((first[0], second[0]), ("write", "write"))
            self.assertTrue(set(first[4]) & set(second[4]))
            strict, loose = (LockBook(read=read, write="row", kept=kept) for kept in ("node", "none"))
            self.assertIsNone(looser_at(strict, loose))
            # Under `store` no reading needs the node of a summary.
            self.assertEqual(looser_at(loose, strict) is None, read == "store")

    def test_two_books_of_which_each_is_looser(self):
        road, rows = LockBook(read="road", write="row"), LockBook(read="rows", write="row")
        for book, other in ((road, rows), (rows, road)):
            self.check(book, other, looser_at(book, other))

    def check(self, book, other, pair):
        """The pair is one, as the point bounds it."""
        first, second = pair
        self.assertTrue(deeds_meet(other, first, second))
        self.assertFalse(deeds_meet(book, first, second))
        for deed in pair:
            self.assertIsInstance(deed, tuple)
            self.well_formed(deed)
            if deed[0] == "read":
                _, _, road, numbers = deed
                parts = (numbers,)
                things = {road, *numbers} - {("table",)}
            else:
                _, _, number, nodes, keys = deed
                parts, numbers = (nodes, keys), (number,)
                things = {number, *nodes, *keys}
            self.assertTrue(all(isinstance(part, tuple) and len(part) <= 2 for part in parts))
            self.assertTrue(all(0 <= number < 10 for number in numbers))
            if first[1] != second[1]:
                self.assertEqual(things & self.things_beside(pair, deed), set())

    def well_formed(self, deed):
        """The deed has the words and the kinds of parts that the points name."""
        word, table, *parts = deed
        self.assertTrue(is_name(table))
        if word == "read":
            (road, numbers), nodes, keys = parts, (), ()
            if road != ("table",):
                nodes = (road,)
        else:
            self.assertEqual(word, "write")
            number, nodes, keys = parts
            numbers = (number,)
        self.assertTrue(all(isinstance(number, int) for number in numbers))
        for word, name in nodes:
            self.assertTrue(word in ("index", "summary") and is_name(name))
        for word, rule, value in keys:
            self.assertTrue(word == "key" and is_name(rule) and value in (0, 1, 2))

    def things_beside(self, pair, deed):
        other = pair[1] if deed == pair[0] else pair[0]
        if other[0] == "read":
            return {other[2], *other[3]} - {("table",)}
        return {other[2], *other[3], *other[4]}

    def test_against_a_search_over_many_deeds(self):
        sample = []
        for chance in chances(150, "deeds"):
            first = random_deed(chance, "a")
            sample.append((first, random_deed(chance, chance.choice("ab")) if chance.randrange(5) else first))
        meets = [[deeds_meet(book, first, second) for first, second in sample] for book in BOOKS]
        looser = 0
        for book, own in zip(BOOKS, meets):
            for other, others in zip(BOOKS, meets):
                pair = looser_at(book, other)
                if pair is None:
                    # No pair at all meets under the other book alone.
                    self.assertFalse(any(there and not here for here, there in zip(own, others)))
                else:
                    looser += 1
                    self.check(book, other, pair)
        self.assertGreater(looser, 500)
