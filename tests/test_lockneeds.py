import unittest

from bookstogether.lockbooks import LockBook
from bookstogether.lockneeds import compatible, meet, read_needs, write_needs

from tests.samples import TOGETHER, chances, plain_meet

STORE, TABLE, INDEX, SUMMARY = ("store",), ("table", "a"), ("index", "i"), ("summary", "s")
KEY = ("key", "p", 0)
MODES = ("s", "x", "is", "ix")


class TestMeet(unittest.TestCase):
    def test_compatible(self):
        for mode in MODES:
            for other in MODES:
                self.assertIs(compatible(mode, other), (mode, other) in TOGETHER)

    def test_meet(self):
        self.assertIs(meet([(STORE, "x")], [(STORE, "s")]), True)
        self.assertIs(meet([(STORE, "s")], [(STORE, "s")]), False)
        self.assertIs(meet([(STORE, "x")], [(TABLE, "x")]), False)
        self.assertIs(meet([(("row", 1), "x")], [(("row", 2), "x")]), False)
        self.assertIs(meet([(KEY, "x")], [(("key", "p", 1), "x")]), False)
        self.assertIs(meet([(STORE, "ix"), (KEY, "x")], [(STORE, "ix"), (KEY, "x")]), True)

    def test_nothing_meets_nothing(self):
        self.assertIs(meet([], []), False)
        self.assertIs(meet([(STORE, "x")], ()), False)
        self.assertIs(meet((), [(STORE, "x")]), False)

    def test_a_node_may_stand_in_several_needs(self):
        self.assertIs(meet([(TABLE, "is"), (TABLE, "s")], [(TABLE, "ix")]), True)
        self.assertIs(meet([(TABLE, "ix")], [(TABLE, "is"), (TABLE, "s")]), True)
        self.assertIs(meet(((TABLE, "is"),), ((TABLE, "is"), (TABLE, "ix"))), False)

    def test_against_all_pairs(self):
        nodes = [STORE, TABLE, INDEX, SUMMARY, ("row", 0), ("row", 1), KEY]
        for chance in chances(300, "meet"):
            pairs = [(chance.choice(nodes), chance.choice(MODES)) for _ in range(6)]
            one, two = pairs[:chance.randrange(4)], pairs[3:3 + chance.randrange(4)]
            self.assertIs(meet(one, two), plain_meet(one, two))


class TestReadNeeds(unittest.TestCase):
    ROADS = (("table",), ("index", "i"), ("summary", "s"))

    def needs(self, road, numbers=(4, 2), **options):
        return read_needs(LockBook(**options), "a", road, numbers)

    def test_alone_and_store(self):
        for road in self.ROADS:
            self.assertEqual(self.needs(road), [(STORE, "x")])
            for write in ("store", "table", "row"):
                self.assertEqual(self.needs(road, read="store", write=write, kept="none"), [(STORE, "s")])

    def test_summary(self):
        for read in ("table", "road", "rows"):
            needs = [(STORE, "is"), (TABLE, "is")]
            self.assertEqual(self.needs(self.ROADS[2], read=read, kept="none"), needs)
            self.assertEqual(self.needs(self.ROADS[2], read=read), needs + [(SUMMARY, "s")])

    def test_table(self):
        for road in self.ROADS[:2]:
            self.assertEqual(self.needs(road, read="table"), [(STORE, "is"), (TABLE, "s")])

    def test_road(self):
        self.assertEqual(self.needs(("table",), read="road"), [(STORE, "is"), (TABLE, "s")])
        self.assertEqual(self.needs(("index", "i"), read="road"), [(STORE, "is"), (TABLE, "is"), (INDEX, "s")])

    def test_rows(self):
        rows = [(("row", 4), "s"), (("row", 2), "s")]
        self.assertEqual(self.needs(("table",), read="rows"), [(STORE, "is"), (TABLE, "is")] + rows)
        self.assertEqual(self.needs(("index", "i"), read="rows"), [(STORE, "is"), (TABLE, "is"), (INDEX, "is")] + rows)
        self.assertEqual(self.needs(("table",), [], read="rows"), [(STORE, "is"), (TABLE, "is")])
        self.assertEqual(self.needs(("index", "i"), (), read="rows"), [(STORE, "is"), (TABLE, "is"), (INDEX, "is")])

    def test_equal_numbers_stay(self):
        needs = self.needs(("table",), [1, 0, 1], read="rows")
        self.assertEqual(needs[2:], [(("row", 1), "s"), (("row", 0), "s"), (("row", 1), "s")])

    def test_a_road_that_tells_its_span(self):
        # So a road of point 115 can be handed on as it is.
        for read in ("table", "road", "rows"):
            needs = self.needs(("index", "i"), read=read)
            self.assertEqual(self.needs(("index", "i", (0, 1)), read=read), needs)

    def test_the_other_table(self):
        self.assertEqual(read_needs(LockBook(read="table"), "b", ("table",), [])[1], (("table", "b"), "s"))

    def test_the_numbers_stay_as_they_are(self):
        numbers = [3, 1]
        read_needs(LockBook(read="rows"), "a", ("table",), numbers).clear()
        self.assertEqual(numbers, [3, 1])
        self.assertEqual(len(read_needs(LockBook(read="rows"), "a", ("table",), numbers)), 4)


class TestWriteNeeds(unittest.TestCase):
    NODES, KEYS = [SUMMARY, INDEX], [("key", "q", 1), KEY, KEY]

    def needs(self, **options):
        return write_needs(LockBook(read="table", **options), "a", 7, self.NODES, self.KEYS)

    def test_store_and_table(self):
        self.assertEqual(write_needs(LockBook(), "a", 7, self.NODES, self.KEYS), [(STORE, "x")])
        self.assertEqual(self.needs(write="store"), [(STORE, "x")])
        self.assertEqual(self.needs(write="table"), [(STORE, "ix"), (TABLE, "x")])

    def test_row(self):
        needs = [(STORE, "ix"), (TABLE, "ix"), (SUMMARY, "ix"), (INDEX, "ix"), (("row", 7), "x")]
        self.assertEqual(self.needs(write="row", checks="none"), needs)
        keys = [(("key", "q", 1), "x"), (KEY, "x"), (KEY, "x")]
        self.assertEqual(self.needs(write="row"), needs + keys)
        self.assertEqual(self.needs(write="row", marks="written", kept="none"), needs + keys)

    def test_without_nodes_and_keys(self):
        book = LockBook(read="rows", write="row")
        self.assertEqual(write_needs(book, "a", 0, (), ()), [(STORE, "ix"), (TABLE, "ix"), (("row", 0), "x")])

    def test_lists_stay_as_they_are(self):
        nodes, keys = [INDEX], [KEY]
        write_needs(LockBook(read="rows", write="row"), "a", 0, nodes, keys).clear()
        self.assertEqual((nodes, keys), ([INDEX], [KEY]))
