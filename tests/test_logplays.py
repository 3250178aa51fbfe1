import itertools
import unittest

from bookstogether.errors import InvalidTurn
from bookstogether.heaps import Heap
from bookstogether.logbooks import LogBook
from bookstogether.logjudge import judge_log
from bookstogether.logplays import goes_wrong, least_play, play, replayed, shortened
from bookstogether.logs import Log
from bookstogether.rows import FREE
from bookstogether.running import everyone, run_plainly
from bookstogether.worlds import World

from tests.samples import ALWAYS, WORLD, chances, random_statement, random_world
from tests.test_logjudge import all_books

BARE = World(["a", "b"])
PUT = ("put", "a", (0, 0, 0))
OTHER = ("put", "b", (1, 1, 1))


def rows_of(*bags):
    """A state: the rows of each table."""
    return tuple(tuple(rows) for rows in bags)


class TestReplayed(unittest.TestCase):
    def test_units_in_order(self):
        units = [(0, (("row", "a", 0, (0, 0, 0)),)), (1, (("statement", ("remove", "a", ALWAYS)), ("summary", "k", 1)))]
        heap = replayed(WORLD, units[:1])
        self.assertEqual((heap.pairs("a"), heap.fresh), ([(0, (0, 0, 0))], 1))
        self.assertEqual(len(replayed(WORLD, tuple(units))), 0)
        self.assertEqual((len(replayed(WORLD, [])), replayed(WORLD, []).fresh), (0, 0))


class TestShortened(unittest.TestCase):
    def row(self, number, value=0):
        return ("row", "a", number, (value, value, value))

    def test_row_parts_that_stand_in_a_later_one(self):
        units = [
            (0, (self.row(1), self.row(2), self.row(1, 1))), (1, (self.row(3),)), (2, (self.row(2, 2), self.row(4))),
        ]
        self.assertEqual(shortened(units),
                         [(0, (self.row(1, 1),)), (1, (self.row(3),)), (2, (self.row(2, 2), self.row(4)))])

    def test_units_without_parts_stay(self):
        units = [(0, (self.row(1),)), (1, ()), (2, (("row", "a", 1, None),))]
        self.assertEqual(shortened(units), [(0, ()), (1, ()), (2, (("row", "a", 1, None),))])

    def test_other_parts_stay(self):
        units = [(0, (self.row(1), ("summary", "k", 1), ("statement", PUT))), (1, (("summary", "k", 1), self.row(1)))]
        self.assertEqual(shortened(units), [(0, (("summary", "k", 1), ("statement", PUT))), units[1]])

    def test_nothing(self):
        self.assertEqual(shortened([]), [])
        units = ((0, (self.row(0),)),)
        self.assertEqual(shortened(units), list(units))

    def test_the_units_are_not_changed(self):
        units = [(0, (self.row(1), self.row(1)))]
        found = shortened(units)
        self.assertEqual(units, [(0, (self.row(1), self.row(1)))])
        found.append(1)
        self.assertEqual(len(units), 1)

    def test_they_lead_to_the_same_rows(self):
        for chance in chances(60, "shortened"):
            world = random_world(chance)
            log, heap = Log(LogBook(when=chance.choice(("end", "write")))), Heap()
            for script in range(12):
                log.begin(script)
                for _ in range(chance.randrange(3)):
                    statement = random_statement(chance, world)
                    _, writes = run_plainly(world, heap, statement, everyone)
                    log.wrote(script, statement, [(("row", table, at, new), []) for table, at, _, new in writes])
                log.end(script)
            units = [log.unit(at) for at in range(len(log))]
            less = shortened(units)
            self.assertEqual([script for script, _ in less], [script for script, _ in units])
            numbers = [part[2] for _, parts in less for part in parts]
            self.assertEqual(len(set(numbers)), len(numbers))
            for table in world:
                self.assertEqual(replayed(world, less).pairs(table), heap.pairs(table))


class TestPlay(unittest.TestCase):
    def test_no_steps(self):
        empty = rows_of((), ())
        self.assertEqual(play(BARE, LogBook(), []), (empty, empty, empty))
        self.assertEqual(play(BARE, LogBook(), ()), (empty, empty, empty))
        self.assertEqual(len(play(World(["a", "b", "c"]), LogBook(), [])[0]), 3)

    def test_a_script_that_ends(self):
        steps = [("do", 0, PUT), ("do", 0, ("put", "a", FREE)), ("end", 0), ("do", 1, OTHER), ("end", 1)]
        state = rows_of((FREE, (0, 0, 0)), ((1, 1, 1),))
        self.assertEqual(play(BARE, LogBook(), steps), (state, state, state))

    def test_open_scripts_are_taken_back(self):
        for when in LogBook.WHEN:
            steps = [("do", 0, PUT), ("end", 0), ("do", 0, ("remove", "a", ALWAYS)), ("do", 1, OTHER)]
            state = rows_of(((0, 0, 0),), ())
            self.assertEqual(play(BARE, LogBook(when=when), steps), (state, state, state))

    def test_back(self):
        steps = [
            ("do", 0, PUT), ("end", 0), ("do", 0, ("change", "a", ALWAYS, 0, 1)), ("do", 0, ("remove", "a", ALWAYS)),
            ("do", 0, ("put", "a", (2, 2, 2))), ("follow", 0), ("back", 0), ("do", 0, ("put", "a", FREE)), ("end", 0),
        ]
        for when in LogBook.WHEN:
            state = rows_of((FREE, (0, 0, 0)), ())
            self.assertEqual(play(BARE, LogBook(when=when), steps), (state, state, state))

    def test_end_and_back_without_an_open_script(self):
        steps = [("end", 0), ("back", 1), ("back", 0), ("do", 0, PUT), ("end", 0), ("end", 0), ("back", 0)]
        self.assertEqual(play(BARE, LogBook(), steps)[0], rows_of(((0, 0, 0),), ()))

    def test_a_number_that_was_taken_back_is_not_used_again(self):
        # With statements, a follower gives the number 0 to the row that has the number 1 in the main heap.
        steps = [("do", 0, PUT), ("back", 0), ("do", 0, PUT), ("end", 0)]
        for what in LogBook.WHAT:
            state = rows_of(((0, 0, 0),), ())
            self.assertEqual(play(BARE, LogBook(what=what), steps), (state, state, state))

    def test_a_refused_statement_and_a_question(self):
        world = World(["a", "b"], [("p", "a", 0, ALWAYS)])
        steps = [("do", 0, PUT), ("do", 0, PUT), ("do", 0, ("count", "a", ALWAYS, "by")), ("end", 0)]
        for when in LogBook.WHEN:
            state = rows_of(((0, 0, 0),), ())
            self.assertEqual(play(world, LogBook(when=when), steps), (state, state, state))

    def test_a_script_may_begin_with_a_question(self):
        # The script of the question is open, so that with `begin` the later one waits until it is taken back.
        steps = [("do", 1, ("count", "b", ALWAYS, "")), ("do", 0, PUT), ("end", 0), ("follow", 0)]
        state = rows_of(((0, 0, 0),), ())
        self.assertEqual(play(BARE, LogBook(when="begin"), steps), (state, state, state))

    def test_three_tables(self):
        world = World(["a", "b", "c"])
        steps = [("do", 2, ("put", "c", FREE)), ("do", 1, OTHER), ("end", 2), ("back", 1)]
        state = rows_of((), (), (FREE,))
        self.assertEqual(play(world, LogBook(), steps), (state, state, state))

    def test_a_cut_gets_both_confirmed_places(self):
        steps = [("do", 0, PUT), ("end", 0), ("follow", 0), ("cut",)]
        state, empty = rows_of(((0, 0, 0),), ()), rows_of((), ())
        self.assertEqual(play(BARE, LogBook(cut="least"), steps), (state, state, state))
        self.assertEqual(play(BARE, LogBook(cut="never"), steps), (state, state, state))
        self.assertEqual(play(BARE, LogBook(cut="greatest"), steps), (state, state, empty))
        self.assertEqual(play(BARE, LogBook(cut="greatest"), [*steps[:2], ("follow", 1), ("cut",)]),
                         (state, empty, state))
        self.assertEqual(play(BARE, LogBook(cut="greatest", confirm="behind"), steps), (state, state, state))
        confirmed = [*steps[:3], ("confirm", 0), ("cut",)]
        self.assertEqual(play(BARE, LogBook(cut="greatest", confirm="behind"), confirmed), (state, state, empty))

    def test_stopping(self):
        steps = [("do", 0, PUT), ("end", 0), ("follow", 1), ("stop", 1)]
        once, twice, none = rows_of(((0, 0, 0),), ()), rows_of(((0, 0, 0),) * 2, ()), rows_of((), ())
        self.assertEqual(play(BARE, LogBook(confirm="ahead"), steps), (once, once, none))
        self.assertEqual(play(BARE, LogBook(confirm="behind"), steps), (once, once, once))
        self.assertEqual(play(BARE, LogBook(confirm="behind", what="statement"), steps), (once, once, twice))
        self.assertEqual(play(BARE, LogBook(what="statement"), steps), (once, once, once))

    def test_goes_wrong(self):
        steps = [("do", 0, PUT), ("end", 0), ("follow", 1), ("stop", 1)]
        self.assertIs(goes_wrong(BARE, LogBook(confirm="ahead"), steps), True)
        self.assertIs(goes_wrong(BARE, LogBook(confirm="ahead"), tuple(steps[:3])), False)
        self.assertIs(goes_wrong(BARE, LogBook(), steps), False)
        self.assertIs(goes_wrong(BARE, LogBook(confirm="ahead"), steps[:2] + [("follow", 0), ("stop", 0)]), True)

    def test_long_plays(self):
        for chance in chances(40, "plays"):
            world = random_world(chance)
            statements = [random_statement(chance, world) for _ in range(30)]
            slots = [(word, slot) for word in ("follow", "follow", "confirm", "stop") for slot in (0, 1)]
            steps = [("do", "ab".index(statement[1]), statement) for statement in statements]
            others = [*slots, ("cut",), ("end", 0), ("end", 1), ("back", 0), ("back", 1)]
            steps += [chance.choice(others) for _ in steps]
            chance.shuffle(steps)
            for book in all_books():
                if judge_log(world, book) == ():
                    self.assertFalse(goes_wrong(world, book, steps), (vars(book), steps))


class TestWrongSteps(unittest.TestCase):
    WRONG = [
        (), ("do",), ("do", 0), ("do", 0, PUT, PUT), ("do", 2, ("put", "a", FREE)), ("do", -1, OTHER), ("do", 1, PUT),
        ("do", 0, OTHER), ("do", 0, ()), ("do", 0, ("put", "a", (0, 0))), ("do", 0, ("put", "c", FREE)), ("end",),
        ("end", 2), ("end", 0, 0), ("back", 2), ("back",), ("follow", 2), ("follow",), ("confirm", -1), ("stop", 2),
        ("cut", 0), ("ask", 0, 0, ("count", "a", ALWAYS, "")), ("strange", 0), ("",), ("do", 0, ("count", "a", ALWAYS)),
        ("do", 0, ("remove", "a", ("equal", 0, None))), ("do", 0, ("upsert", "a", FREE, ("p",), ())), ("end", "a"),
        ("do", 0, ("count", "a", ALWAYS, "set")),
    ]

    def test_at_the_beginning_in_the_middle_and_at_the_end(self):
        good = [("do", 0, PUT), ("end", 0), ("follow", 0), ("cut",)]
        for wrong in self.WRONG:
            for at in range(len(good) + 1):
                steps = good[:at] + [wrong] + good[at:]
                for call in (play, goes_wrong):
                    with self.assertRaises(InvalidTurn, msg=wrong) as caught:
                        call(BARE, LogBook(), steps)
                    self.assertEqual(caught.exception.at, at, wrong)

    def test_the_first_one_counts(self):
        with self.assertRaises(InvalidTurn) as caught:
            play(BARE, LogBook(), [("cut",), ("cut", 1), ()])
        self.assertEqual(caught.exception.at, 1)

    def test_the_users_are_the_places_of_the_tables(self):
        with self.assertRaises(InvalidTurn):
            play(BARE, LogBook(), [("end", 2)])
        self.assertEqual(len(play(World(["a", "b", "c"]), LogBook(), [("end", 2)])), 3)


class TestLeastPlay(unittest.TestCase):
    def test_each_finding(self):
        put = ("do", 0, ("put", "a", FREE))
        end, follow, stop, cut, confirm = ("end", 0), ("follow", 0), ("stop", 0), ("cut",), ("confirm", 0)
        for options, steps in (
            ({}, None),
            ({"confirm": "behind", "cut": "least", "when": "begin"}, None),
            ({"confirm": "ahead"}, (put, end, follow, stop)),
            ({"what": "statement", "confirm": "behind"}, (put, end, follow, stop)),
            ({"cut": "greatest"}, (put, end, follow, cut)),
            ({"cut": "greatest", "confirm": "behind"}, (put, end, follow, confirm, cut)),
            ({"cut": "greatest", "confirm": "ahead"}, (put, end, follow, stop)),
            ({"cut": "greatest", "confirm": "behind", "what": "statement"}, (put, end, follow, stop)),
            ({"what": "statement", "when": "write"}, (put,)),
            ({"what": "statement", "when": "write", "confirm": "ahead", "cut": "greatest"}, (put,)),
        ):
            self.assertEqual(least_play(WORLD, LogBook(**options)), steps)

    def test_the_first_table(self):
        world = World(["zz", "a"], [("p", "zz", 0, ALWAYS)])
        self.assertEqual(least_play(world, LogBook(confirm="ahead"))[0], ("do", 0, ("put", "zz", FREE)))

    def test_it_goes_wrong_and_needs_each_of_its_steps(self):
        for book in all_books():
            steps = least_play(WORLD, book)
            self.assertEqual(steps is None, judge_log(WORLD, book) == ())
            if steps is not None:
                self.assertTrue(goes_wrong(WORLD, book, steps), vars(book))
                for at in range(len(steps)):
                    self.assertFalse(goes_wrong(WORLD, book, steps[:at] + steps[at + 1:]), (vars(book), at))

    def test_no_fewer_steps_go_wrong(self):
        some = [
            ("do", 0, ("put", "a", FREE)), ("do", 0, ("remove", "a", ALWAYS)), ("end", 0), ("back", 0), ("follow", 0),
            ("confirm", 0), ("stop", 0), ("cut",),
        ]
        for size in range(4):
            for steps in itertools.product(some, repeat=size):
                for book in all_books():
                    # Steps of a user are told the log alike with and without differences.
                    if book.kept == "own" and size < len(least_play(WORLD, book) or some):
                        self.assertFalse(goes_wrong(WORLD, book, steps), (vars(book), steps))
