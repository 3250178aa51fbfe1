import itertools
import unittest

from bookstogether.copybooks import CopyBook
from bookstogether.copyjudge import judge_copies
from bookstogether.errors import InvalidTurn
from bookstogether.histories import History, least_history

from tests.samples import WORLD, chances
from tests.test_copybooks import TUPLES
from tests.test_copyjudge import all_books

ALL = ("own", "seen", "main")


class TestHistory(unittest.TestCase):
    def test_a_new_history(self):
        history = History(CopyBook())
        self.assertEqual((history.main, history.positions, len(history), list(history)), (0, [0, 0], 0, []))
        self.assertEqual((history.broken(), history.as_promised), ((), True))
        self.assertEqual(History(CopyBook(), copies=1).positions, [0])
        self.assertEqual(History(CopyBook(), copies=9).positions, [0] * 9)

    def test_ends(self):
        history = History(CopyBook())
        self.assertEqual([history(("end", 0, True)), history(("end", 2, False)), history(("end", 1, True))], [1, 1, 2])
        self.assertEqual((history.main, history.positions), (2, [0, 0]))

    def test_moves_and_back(self):
        history = History(CopyBook(), copies=3)
        self.assertEqual(history(("move", 0)), 0)
        self.assertEqual(history(("back", 0)), 0)
        history.run(("end", 0, True), ("end", 0, True))
        tells = history.run(("move", 1), ("move", 1), ("move", 1), ("back", 1), ("move", 2), ("back", 2), ("back", 2))
        self.assertEqual(tells, [1, 2, 2, 1, 1, 0, 0])
        self.assertEqual((history.main, history.positions), (2, [0, 1, 0]))

    def test_asks(self):
        history = History(CopyBook(served=True, marks=("own",), promises=ALL))
        self.assertIs(history(("ask", 0, 0)), True)
        history(("end", 0, True))
        self.assertIs(history(("ask", 0, 0)), False)
        self.assertIs(history(("ask", 1, 0)), True)
        history(("move", 1))
        self.assertIs(history(("ask", 0, 1)), True)
        self.assertEqual(history.broken(), ())
        # The copy 1 showed the user 1 what the copy 0 does not have yet.
        self.assertIs(history(("ask", 1, 1)), True)
        self.assertIs(history(("ask", 1, 0)), True)
        self.assertEqual((history.broken(), history.as_promised), (((7, "seen"),), False))

    def test_copies_that_do_not_answer(self):
        history = History(CopyBook(promises=ALL))
        self.assertEqual(history.run(("end", 0, True), ("ask", 0, 0), ("ask", 1, 1)), [1, False, False])
        self.assertTrue(history.as_promised)
        # What does not answer has not been seen either.
        self.assertEqual(history.sessions.mark(1, "seen"), 0)

    def test_several_promises_are_broken_in_order(self):
        history = History(CopyBook(served=True, promises=ALL))
        history.run(("end", 0, True), ("move", 0), ("ask", 0, 0), ("ask", 0, 1), ("back", 0), ("ask", 0, 0))
        told = tuple((place, word) for place in (3, 5) for word in ALL)
        self.assertEqual(history.broken(), told)
        self.assertIs(history.as_promised, False)

    def test_a_copy_that_goes_back(self):
        history = History(CopyBook(served=True, marks=("own",), promises=("seen",)), copies=1)
        history.run(("end", 1, True), ("move", 0), ("ask", 0, 0), ("back", 0), ("ask", 0, 0))
        self.assertEqual(history.broken(), ((4, "seen"),))
        history = History(CopyBook(served=True, marks=("seen",), promises=("seen",)), copies=1)
        tells = history.run(("end", 1, True), ("move", 0), ("ask", 0, 0), ("back", 0), ("ask", 0, 0))
        self.assertEqual((tells, history.broken()), ([1, 1, True, 0, False], ()))

    def test_events_in_order(self):
        history = History(CopyBook())
        events = [("end", 0, True), ("move", 0), ("ask", 0, 1), ("end", 0, True)]
        history(events[0])
        history.run(*events[1:])
        self.assertEqual((list(history), len(history)), (events, 4))
        self.assertEqual(history.run(), [])
        self.assertEqual(len(history), 4)


class TestWrongEvents(unittest.TestCase):
    WRONG = [
        (), ("end",), ("end", 0), ("end", 3, True), ("end", -1, False), ("end", 0, True, 0), ("end", 0, None),
        ("move",),
        ("move", 2), ("move", -1), ("move", 0, 0), ("back", 2), ("back",), ("ask", 0), ("ask", 3, 0), ("ask", 0, 2),
        ("ask", 0, 0, 0), ("ask", None, 0), ("strange",), ("strange", 0), ("", 0), ("do", 0, ()), ("end", 0, "yes"),
    ]

    def test_one_event(self):
        for wrong in self.WRONG:
            history = History(CopyBook(served=True))
            for at in range(2):
                with self.assertRaises(InvalidTurn, msg=wrong) as caught:
                    history(wrong)
                self.assertEqual((caught.exception.at, len(history)), (at, at))
                history(("end", 0, True))

    def test_in_a_run_none_is_carried_out(self):
        good = [("end", 0, True), ("move", 0), ("ask", 0, 0)]
        for wrong in self.WRONG:
            for at in range(len(good) + 1):
                history = History(CopyBook(served=True, promises=ALL))
                history(("end", 1, True))
                events = good[:at] + [wrong] + good[at:]
                with self.assertRaises(InvalidTurn, msg=wrong) as caught:
                    history.run(*events)
                self.assertEqual(caught.exception.at, 1 + at)
                self.assertEqual((len(history), history.main, history.positions), (1, 1, [0, 0]))
                self.assertEqual(history.sessions.mark(0, "main"), 0)

    def test_the_copies_that_are_there(self):
        for copies in (1, 2, 9):
            history = History(CopyBook(), copies=copies)
            for copy in range(copies):
                self.assertEqual(history(("move", copy)), 0)
            for event in (("move", copies), ("back", copies), ("ask", 0, copies), ("ask", 0, 10 ** 20)):
                with self.assertRaises(InvalidTurn):
                    history(event)


class TestJudgementHolds(unittest.TestCase):
    def test_right_books_keep_their_promises(self):
        for chance in chances(40, "histories"):
            copies = chance.choice((1, 2, 9))
            events = []
            for _ in range(60):
                word = chance.choice(("end", "move", "move", "move", "back", "ask", "ask", "ask"))
                user, copy = chance.randrange(3), chance.randrange(copies)
                events.append({
                    "end": ("end", user, chance.choice((True, False))), "move": ("move", copy), "back": ("back", copy),
                    "ask": ("ask", user, copy),
                }[word])
            for book in all_books():
                history = History(book, copies=copies)
                history.run(*events)
                broken = {(promise,) for _, promise in history.broken()}
                self.assertLessEqual(broken, set(judge_copies(WORLD, book)))
                self.assertEqual(history.as_promised, not broken)


class TestLeastHistory(unittest.TestCase):
    def test_each_case(self):
        end, other, ask = ("end", 0, True), ("end", 1, False), ("ask", 0, 0)
        for marks, promises, events in (
            ((), (), None), (("main",), ("own", "main"), None), (("seen", "main"), ALL, None),
            ((), ("own",), (end, ask)), ((), ("main",), (end, ask)), (("seen",), ("own", "seen"), (end, ask)),
            (("seen",), ALL, (end, ask)), (("own",), ("main",), (end, other, ("ask", 1, 0))),
            (("own", "seen"), ALL, (end, other, ("ask", 1, 0))),
            ((), ("seen",), (end, ("move", 0), ("ask", 1, 0), ("ask", 1, 1))),
            (("main",), ALL, (end, ("move", 0), ("ask", 1, 0), ("ask", 1, 1))),
            (("own", "main"), ("seen",), (end, ("move", 0), ("ask", 1, 0), ("ask", 1, 1))),
        ):
            self.assertEqual(least_history(CopyBook(served=True, marks=marks, promises=promises)), events)
            self.assertIsNone(least_history(CopyBook(marks=marks, promises=promises)))

    def test_it_breaks_a_promise_and_needs_each_of_its_events(self):
        for book in all_books():
            events = least_history(book)
            self.assertEqual(events is None, judge_copies(WORLD, book) == ())
            if events is not None:
                self.assertFalse(self.keeps(book, events))
                for at in range(len(events)):
                    self.assertTrue(self.keeps(book, events[:at] + events[at + 1:]))

    def keeps(self, book, events):
        history = History(book)
        history.run(*events)
        return history.as_promised

    def test_no_fewer_events_break_a_promise(self):
        some = [("end", user, wrote) for user in (0, 1) for wrote in (True, False)]
        some += [("move", 0), ("move", 1), ("back", 0)] + [("ask", user, copy) for user in (0, 1) for copy in (0, 1)]
        books = [(book, least_history(book)) for book in all_books()]
        for size in range(4):
            for events in itertools.product(some, repeat=size):
                if events and events[-1][0] != "ask":
                    continue
                for book, least in books:
                    if size < len(least or some) and book.marks in TUPLES[:4]:
                        self.assertTrue(self.keeps(book, events), (book.lines(), events))
