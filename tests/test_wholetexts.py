import unittest

from bookstogether.bookshelf import Books
from bookstogether.copybooks import CopyBook
from bookstogether.errors import InvalidBook, InvalidStore, InvalidText, InvalidWorld, UnknownTable
from bookstogether.hidingbooks import HidingBook
from bookstogether.indexbooks import IndexBook
from bookstogether.logbooks import LogBook
from bookstogether.stores import Store
from bookstogether.texts import write_store, write_world
from bookstogether.wholetexts import read_whole, write_whole

from tests.bookmaker import some_books, some_start, some_story, some_world
from tests.samples import ALWAYS, WORLD, chances
from tests.test_bookshelf import PLAIN

WORLD_LINES = [
    "table a", "table b", "rule p a 0 always", "rule q a 1 equal 2 1", "rule r b 2 not unknown 0",
]
BOOK_LINES = [
    "upserts again no sees all tells after", "arbiter p i",
    "indexes writes both serves implied", "index i a 0 p always",
    "locks read road write row marks holding checks key kept node asks ahead lasts end clash age",
    "hiding first ask told all", "hide 1 b unknown 2",
    "looks tells yes counts looked", "claim i 2",
    "summaries alike shown undo difference greatest question", "summary s a greatest 0 always", "edge s i",
    "log when begin what image kept logged confirm with cut least",
    "copies served yes marks own promises own hides yes indexes own summaries own",
]
ROW_LINES = ["row a 0 1 2", "row b ? ? ?"]
TURN_LINES = [
    "do 0 put a 1 1 1", "end 0", "back 2", "follow 0", "confirm 1", "stop 1", "cut", "ask 1 0 count a i equal 0 1",
]
LINES = WORLD_LINES + BOOK_LINES + ROW_LINES + TURN_LINES


class WholeCase(unittest.TestCase):
    def bad(self, line, lines):
        with self.assertRaises(InvalidText, msg=lines) as caught:
            read_whole("\n".join(lines))
        self.assertEqual(caught.exception.line, line, lines)

    def same(self, lines):
        """Reading the lines and writing what was read gives the lines."""
        text = "\n".join(lines)
        self.assertEqual(write_whole(*read_whole(text)), text)


class TestWriting(WholeCase):
    def test_all_groups(self):
        store = Store(WORLD)
        store.load("b", (None, None, None))
        store.load("a", (0, 1, 2))
        story = (("do", 0, ("put", "a", (1, 1, 1))), ("cut",), ("ask", 1, 0, ("count", "a", ALWAYS, "i")))
        text = write_whole(WORLD, Books(), store, story)
        turns = ["do 0 put a 1 1 1", "cut", "ask 1 0 count a i always"]
        self.assertEqual(text.split("\n"), WORLD_LINES + PLAIN + ROW_LINES + turns)

    def test_without_rows_and_turns(self):
        self.assertEqual(write_whole(WORLD, Books(), Store(WORLD), ()).split("\n"), WORLD_LINES + PLAIN)

    def test_what_is_read_is_written(self):
        self.same(LINES)
        self.same(WORLD_LINES + PLAIN)
        self.same(WORLD_LINES + PLAIN + TURN_LINES)

    def test_many_wholes(self):
        for chance in chances(60, "wholes"):
            world = some_world(chance)
            books = some_books(chance, world)
            store = some_start(chance, world, books)
            story = some_story(chance, world, books, chance.randrange(10))
            text = write_whole(world, books, store, story)
            read, shelf, start, turns = read_whole(text)
            self.assertEqual((read.tables, read.rules, shelf.lines(), turns),
                             (world.tables, world.rules, books.lines(), story))
            self.assertEqual(write_store(start), write_store(store))
            self.assertEqual(start.sight.rules, books.hiding.rules)
            self.assertEqual(write_whole(read, shelf, start, turns), text)


class TestReading(WholeCase):
    def test_all_groups(self):
        world, books, store, story = read_whole("\n".join(LINES))
        self.assertEqual(write_world(world).split("\n"), WORLD_LINES)
        self.assertEqual(books.lines(), BOOK_LINES)
        self.assertEqual(write_store(store).split("\n"), ROW_LINES)
        self.assertIs(store.world, world)
        self.assertIs(store.sight, books.hiding.sight)
        self.assertEqual(len(story), 8)
        self.assertEqual(story[0], ("do", 0, ("put", "a", (1, 1, 1))))
        self.assertEqual(story[6:], (("cut",), ("ask", 1, 0, ("count", "a", ("equal", 0, 1), "i"))))
        self.assertIsInstance(story, tuple)

    def test_parts_that_are_left_out(self):
        groups = [["upserts", "arbiter"], ["indexes", "index"], ["locks"], ["hiding", "hide"], ["looks", "claim"],
                  ["summaries", "summary", "edge"], ["log"], ["copies"], ["row"],
                  ["do", "end", "back", "follow", "confirm", "stop", "cut", "ask"]]
        for group in groups:
            lines = [line for line in LINES if line.split(" ")[0] not in group]
            _, books, store, story = read_whole("\n".join(lines))
            plain = [line for line in PLAIN if line.split(" ")[0] in group]
            kept = [line for line in BOOK_LINES if line.split(" ")[0] not in group]
            self.assertEqual(sorted(books.lines()), sorted(plain + kept))
            self.assertEqual((len(store), len(story)), (0 if group == ["row"] else 2, 0 if "do" in group else 8))
        world, books, store, story = read_whole("\n".join(WORLD_LINES))
        self.assertEqual((books.lines(), len(store), story, len(world)), (PLAIN, 0, (), 2))

    def test_rows_in_any_order(self):
        _, _, store, _ = read_whole("\n".join(WORLD_LINES + ["row b 2 2 2", "row a 0 0 0", "row b 1 1 1"]))
        self.assertEqual(store.heap.pairs("b"), [(0, (2, 2, 2)), (2, (1, 1, 1))])

    def test_the_sight_of_the_hiding_book(self):
        lines = WORLD_LINES + ["hiding first hide told shown", "hide 0 a unknown 0", "row a 1 1 1"]
        _, _, store, _ = read_whole("\n".join(lines))
        self.assertEqual((store.run(0, ("count", "a", ALWAYS, "")), store.run(1, ("count", "a", ALWAYS, ""))),
                         (("count", 0), ("count", 1)))

    def test_whether_books_and_turns_fit_is_not_looked_at(self):
        lines = WORLD_LINES + ["upserts again yes sees shown tells after", "arbiter zz yy",
                               "hiding first hide told shown", "hide 0 zz always", "do 0 put zz 0 0 0"]
        _, books, _, story = read_whole("\n".join(lines))
        self.assertEqual((list(books.upserts), story), ([("zz", "yy")], (("do", 0, ("put", "zz", (0, 0, 0))),)))


class TestBadFirstWords(WholeCase):
    def test_words_that_begin_no_line(self):
        for word in ("strange", "", "Table", "tables", "question", "put", "rows", "-", "0"):
            for at in (0, 2, len(LINES) - 1, len(LINES)):
                self.bad(at + 1, LINES[:at] + [f"{word} 0".strip()] + LINES[at:])
        self.bad(1, [""])
        self.bad(len(LINES) + 1, LINES + [""])
        self.bad(1, [" table a"])

    def test_first_words_come_before_all_else(self):
        for at in range(len(LINES)):
            broken = LINES[:at] + [LINES[at] + " strange"] + LINES[at + 1:]
            self.bad(len(LINES) + 1, broken + ["strange"])
            self.bad(at + 1, broken)

    def test_lines_of_an_earlier_group(self):
        for at in range(1, len(LINES)):
            # Rules and tables, and the lines of turns, are groups of their own.
            for line in ("table c", "arbiter p i", "index i a 0 p always", "locks x", "hide 0 a always", "claim i 1",
                         "edge s i", "log x", "copies x", "row a 1 1 1"):
                word = line.split(" ")[0]
                before = [other.split(" ")[0] for other in LINES[:at]]
                place = self.place(word)
                if max(self.place(other) for other in before) > place:
                    self.bad(at + 1, LINES[:at] + [line] + LINES[at:])

    def place(self, word):
        groups = ["table rule", "upserts arbiter", "indexes index", "locks", "hiding hide", "looks claim",
                  "summaries summary edge", "log", "copies", "row", "do end back follow confirm stop cut ask"]
        return [word in group.split(" ") for group in groups].index(True)

    def test_the_first_one_counts(self):
        self.bad(2, ["row a 0 0 0", "table a", "strange"])
        self.bad(2, ["row a 0 0 0", "strange", "table a"])

    def test_parts_in_another_order(self):
        self.bad(4, ["table a", "table b", PLAIN[2], PLAIN[1]])
        self.bad(4, ["table a", "table b", PLAIN[7], PLAIN[6]])


class TestBadLines(WholeCase):
    def test_a_bad_line_in_each_group(self):
        for at, line in enumerate(LINES):
            self.bad(at + 1, LINES[:at] + [line + " "] + LINES[at + 1:])
            self.bad(at + 1, LINES[:at] + [line + " zz9"] + LINES[at + 1:])
            if line != "cut":
                self.bad(at + 1, LINES[:at] + [line.rsplit(" ", 1)[0]] + LINES[at + 1:])
                self.bad(at + 1, LINES[:at] + [line.replace(" ", "  ", 1)] + LINES[at + 1:])

    def test_parts_that_stand_twice(self):
        for at, line in enumerate(LINES):
            if line in BOOK_LINES and line.split(" ")[0] in ("upserts", "indexes", "locks", "hiding", "looks", "log",
                                                             "summaries", "copies"):
                self.bad(at + 2, LINES[:at + 1] + [line] + LINES[at + 1:])

    def test_items_without_the_first_line_of_their_part(self):
        for at, line in enumerate(LINES):
            if line.split(" ")[0] in ("arbiter", "index", "hide", "claim", "summary"):
                self.bad(at, LINES[:at - 1] + LINES[at:])

    def test_the_order_inside_a_group(self):
        self.bad(4, WORLD_LINES[:3] + ["table c"])
        summaries = [PLAIN[5], "edge s i", "summary s a count 0 always"]
        self.bad(8, WORLD_LINES + summaries)

    def test_bad_turns(self):
        for line in (
            "do 3 put a 1 1 1", "do put a 1 1 1", "do 0", "do 0 strange", "do 0 put a 1 1", "do 0 put a 1 1 3", "end",
            "end 3",
            "end 0 0", "end -1", "end 00", "back", "back x", "follow 2", "follow", "confirm -", "stop 2", "stop 0 0",
            "cut 0",
            "ask 0 0", "ask 0 2 count a - always", "ask 3 0 count a - always", "ask 0 count a - always",
            "ask 0 0 put a 1 1 1", "ask 0 0 remove a always", "ask 0 0 upsert a 1 1 1 on set",
            "ask 0 0 change a 0 0 always",
            "ask 0 0 count a always",
        ):
            self.bad(6, WORLD_LINES + [line])
            self.bad(7, WORLD_LINES + ["cut", line, "cut"])

    def test_the_groups_are_read_in_their_order(self):
        # What is wrong with an earlier group comes first, also if a later one has a bad line.
        with self.assertRaises(InvalidWorld):
            read_whole("\n".join(["table a", "row a 0 0 0 0"]))
        with self.assertRaises(InvalidBook) as caught:
            read_whole("\n".join(WORLD_LINES + [PLAIN[0], "arbiter p i", "arbiter p j", "log x", "row x"]))
        self.assertEqual(caught.exception.part, "upserts")
        with self.assertRaises(UnknownTable):
            read_whole("\n".join(WORLD_LINES + ["row zz 0 0 0", "cut 0"]))
        with self.assertRaises(InvalidStore):
            read_whole("\n".join(WORLD_LINES + ["row a 0 0 0", "row a 0 1 1", "cut 0"]))
        self.bad(7, WORLD_LINES + [PLAIN[6], "row a 0 0 0 0", "cut 0"])

    def test_a_world_that_is_none(self):
        with self.assertRaises(InvalidWorld):
            read_whole("table a\ntable a\ncut")
        with self.assertRaises(InvalidWorld):
            read_whole("cut")

    def test_books_are_read_as_they_are(self):
        books = Books(indexes=IndexBook(writes="put"), hiding=HidingBook(first="ask"), log=LogBook(cut="least"),
                      copies=CopyBook(promises=("main",)))
        text = write_whole(WORLD, books, Store(WORLD), ())
        self.assertEqual(read_whole(text)[1].lines(), books.lines())
