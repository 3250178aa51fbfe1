import unittest

from bookstogether.errors import InvalidCondition, InvalidStore, InvalidText, InvalidWorld, UnknownTable
from bookstogether.sights import Sight
from bookstogether.stores import Store
from bookstogether.texts import read_statement, read_store, read_world
from bookstogether.texts import write_statement, write_store, write_world
from bookstogether.words import write_condition
from bookstogether.worlds import World

from tests.samples import ALWAYS, WORLD, chances, deep, random_row, random_world

STATEMENTS = {
    "put a 0 ? 2": ("put", "a", (0, None, 2)),
    "change a 1 ? equal 0 1": ("change", "a", ("equal", 0, 1), 1, None),
    "change a 2 0 always": ("change", "a", ALWAYS, 2, 0),
    "remove b not always": ("remove", "b", ("not", ALWAYS)),
    "upsert a 0 ? 2 on p set 1 new 2 0": ("upsert", "a", (0, None, 2), ("p",), ((1, "new"), (2, 0))),
    "upsert a 0 ? 2 on set": ("upsert", "a", (0, None, 2), (), ()),
    "upsert a 0 0 0 on q p set 0 ?": ("upsert", "a", (0, 0, 0), ("q", "p"), ((0, None),)),
    "upsert a 0 0 0 on set 0 0 0 1": ("upsert", "a", (0, 0, 0), (), ((0, 0), (0, 1))),
    "rows a - always": ("rows", "a", ALWAYS, ""),
    "rows a x always": ("rows", "a", ALWAYS, "x"),
    "count b p unknown 0": ("count", "b", ("unknown", 0), "p"),
    "sum a 2 - below 0 1": ("sum", "a", ("below", 0, 1), 2, ""),
    "greatest a 0 always always": ("greatest", "a", ALWAYS, 0, "always"),
}

WRONG_STATEMENTS = [
    "",
    "put",
    "get a 0 0 0",
    "Put a 0 0 0",
    "put a 0 0",
    "put a 0 0 0 0",
    "put a 0 0 3",
    "put a 0 0 00",
    "put a 0 0 -",
    "put a  0 0 0",
    "put a 0 0 0 ",
    " put a 0 0 0",
    "put a 0 0 0\n",
    "put A 0 0 0",
    "put set 0 0 0",
    "put - 0 0 0",
    "change a ? 0 always",
    "change a 0 new always",
    "change a 0 always",
    "change a always 0 0",
    "remove a",
    "remove a always 0",
    "upsert a 0 0 0",
    "upsert a 0 0 0 on",
    "upsert a 0 0 0 on p",
    "upsert a 0 0 0 set 0 0",
    "upsert a 0 0 0 set 0 0 on p",
    "upsert a 0 0 0 on P set",
    "upsert a 0 0 0 on on set",
    "upsert a 0 0 0 on - set",
    "upsert a 0 0 0 on p set 0",
    "upsert a 0 0 0 on p set ? 0",
    "upsert a 0 0 0 on p set new 0",
    "upsert a 0 0 0 on p set 0 old",
    "upsert a 0 0 0 on p set 0 0 set",
    "rows a always",
    "rows a new always",
    "rows a - - always",
    "count a - " + write_condition(deep(11)),
    "sum a - always",
    "sum a ? - always",
    "greatest a 0 always",
]


class TestStatements(unittest.TestCase):
    def test_both_ways(self):
        for text, statement in STATEMENTS.items():
            self.assertEqual(write_statement(statement), text)
            self.assertEqual(read_statement(text), statement)

    def test_wrong_lines(self):
        for text in WRONG_STATEMENTS:
            with self.assertRaises(InvalidText, msg=repr(text)) as caught:
                read_statement(text)
            self.assertEqual(caught.exception.line, 1)


class Case(unittest.TestCase):
    def bad_line(self, read, text, line):
        with self.assertRaises(InvalidText, msg=repr(text)) as caught:
            read(text)
        self.assertEqual(caught.exception.line, line, repr(text))


class TestWorlds(Case):
    def test_both_ways(self):
        text = "table a\ntable b\nrule p a 0 always\nrule q a 1 equal 2 1\nrule r b 2 not unknown 0"
        self.assertEqual(write_world(WORLD), text)
        world = read_world(text)
        self.assertEqual((world.tables, world.rules), (WORLD.tables, WORLD.rules))

    def test_worlds_without_rules(self):
        self.assertEqual(write_world(World(("b", "a", "c"))), "table b\ntable a\ntable c")
        self.assertEqual(read_world("table b\ntable a").tables, ("b", "a"))

    def test_reading_what_is_written(self):
        for chance in chances(30, "texts"):
            world = random_world(chance)
            again = read_world(write_world(world))
            self.assertEqual((again.tables, again.rules), (world.tables, world.rules))

    def test_bad_lines(self):
        good = "table a\ntable b"
        for text, line in (
            ("", 1),
            ("\n" + good, 1),
            (good + "\n", 3),
            ("table a\n\ntable b", 2),
            ("table a \ntable b", 1),
            ("table  a\ntable b", 1),
            ("table a\ntable", 2),
            ("table a\ntable b c", 2),
            ("table a\ntable on", 2),
            ("table a\ntable B", 2),
            ("tables a\ntable b", 1),
            (good + "\nrow a 0 0 0", 3),
            (good + "\nrule p a 0 always\ntable c", 4),
            (good + "\nrule p a 0", 3),
            (good + "\nrule p a ? always", 3),
            (good + "\nrule p a 3 always", 3),
            (good + "\nrule - a 0 always", 3),
            (good + "\nrule p a 0 always always", 3),
            (good + "\nrule p a 0 " + write_condition(deep(11)), 3),
            (good + "\r\nrule p a 0 always", 2),
        ):
            self.bad_line(read_world, text, line)

    def test_the_first_bad_line(self):
        self.bad_line(read_world, "table a\ntable A\n\ntable  b", 2)
        self.bad_line(read_world, "table a\nrule p a 0 x\n", 2)

    def test_bad_lines_come_before_what_is_built(self):
        self.bad_line(read_world, "table a\ntable a\ntable a\ntable a\ntable A", 5)
        self.bad_line(read_world, "table a\nrule p x 0 always\nrule p a 0 never", 3)

    def test_errors_of_what_is_built(self):
        for text, error in (
            ("table a", InvalidWorld),
            ("table a\ntable a", InvalidWorld),
            ("rule p a 0 always", InvalidWorld),
            ("table a\ntable b\nrule p c 0 always", UnknownTable),
            ("table a\ntable b\nrule p a 0 always\nrule p b 0 always", InvalidWorld),
            ("table a\ntable b\nrule p a 0 " + write_condition(deep(7)), InvalidCondition),
            ("table a\ntable b\nrule p a 0 quotient 0 1 2", InvalidCondition),
        ):
            with self.assertRaises(error, msg=text) as caught:
                read_world(text)
            self.assertIs(type(caught.exception), error)


class TestStores(Case):
    def read(self, text):
        return read_store(WORLD, text)

    def test_written_by_tables_and_ascending_rows(self):
        world = World(("b", "a"))
        store = Store(world)
        for table, row in (("a", (2, 0, 0)), ("b", (0, 0, 0)), ("a", (None, 0, 1)), ("a", (2, 0, 0))):
            store.load(table, row)
        self.assertEqual(write_store(store), "row b 0 0 0\nrow a ? 0 1\nrow a 2 0 0\nrow a 2 0 0")

    def test_an_empty_store(self):
        self.assertEqual(write_store(Store(WORLD)), "")
        self.assertEqual(len(self.read("")), 0)

    def test_rows_are_loaded_in_the_order_of_the_lines(self):
        store = self.read("row b 2 0 0\nrow a 0 0 0\nrow b 1 ? 1")
        self.assertIs(store.world, WORLD)
        numbered = [store.heap[number] for number in sorted(store.heap)]
        self.assertEqual(numbered, [("b", (2, 0, 0)), ("a", (0, 0, 0)), ("b", (1, None, 1))])

    def test_sight(self):
        sight = Sight((0, "a", ("not", ALWAYS)))
        store = read_store(WORLD, "row a 0 0 0", sight)
        self.assertIs(store.sight, sight)
        self.assertEqual(store.bag("a"), [(0, 0, 0)])
        self.assertIs(read_store(WORLD, "row a 0 0 0").sight(0, "a", (0, 0, 0)), True)

    def test_reading_what_is_written(self):
        world = World(("a", "b"))
        for chance in chances(20, "stores"):
            store = Store(world)
            for _ in range(chance.randrange(6)):
                store.load(chance.choice(("a", "b")), random_row(chance))
            again = read_store(world, write_store(store))
            self.assertEqual([again.bag(table) for table in world], [store.bag(table) for table in world])

    def test_bad_lines(self):
        for text, line in (
            ("\n", 1),
            ("row a 0 0 0\n", 2),
            ("row a 0 0 0\n\nrow b 0 0 0", 2),
            ("row a 0 0", 1),
            ("row a 0 0 0 0", 1),
            ("row a 0 0 3", 1),
            ("row a 0 0 01", 1),
            ("row  a 0 0 0", 1),
            ("row A 0 0 0", 1),
            ("table a", 1),
        ):
            self.bad_line(self.read, text, line)

    def test_bad_lines_come_before_what_is_built(self):
        self.bad_line(self.read, "row x 0 0 0\nrow a 0 0 0\nrow a 0 0 0\nrow a", 4)

    def test_errors_of_what_is_built(self):
        with self.assertRaises(UnknownTable):
            self.read("row x 0 0 0\nrow a 0 0 0\nrow a 0 0 0")
        with self.assertRaises(InvalidStore):
            self.read("row a 0 0 0\nrow a 0 1 1\nrow x 0 0 0")
