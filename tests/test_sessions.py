import unittest

from bookstogether.copybooks import CopyBook
from bookstogether.sessions import Sessions

WORDS = ("own", "seen", "main")
GREAT = 10 ** 20


def marks(sessions, user):
    return tuple(sessions.mark(user, word) for word in WORDS)


class TestSessions(unittest.TestCase):
    def test_all_marks_begin_at_0(self):
        sessions = Sessions(CopyBook())
        for user in range(3):
            self.assertEqual(marks(sessions, user), (0, 0, 0))

    def test_a_script_that_wrote(self):
        sessions = Sessions(CopyBook())
        self.assertIsNone(sessions.ended(1, 3, True))
        self.assertEqual([marks(sessions, user) for user in range(3)], [(0, 0, 0), (3, 0, 3), (0, 0, 0)])

    def test_a_script_that_wrote_nothing(self):
        sessions = Sessions(CopyBook())
        sessions.ended(1, 3, False)
        self.assertEqual(marks(sessions, 1), (0, 0, 3))

    def test_an_answer(self):
        sessions = Sessions(CopyBook())
        self.assertIsNone(sessions.answered(2, 5))
        self.assertEqual([marks(sessions, user) for user in range(3)], [(0, 0, 0), (0, 0, 0), (0, 5, 0)])

    def test_marks_never_fall(self):
        sessions = Sessions(CopyBook())
        sessions.ended(0, GREAT, True)
        sessions.answered(0, GREAT)
        for position in (0, 1, GREAT - 1, GREAT):
            sessions.ended(0, position, True)
            sessions.ended(0, position, False)
            sessions.answered(0, position)
            self.assertEqual(marks(sessions, 0), (GREAT, GREAT, GREAT))
        sessions.ended(0, GREAT + 1, False)
        self.assertEqual(marks(sessions, 0), (GREAT, GREAT, GREAT + 1))

    def test_lets_looks_at_the_marks_of_the_book(self):
        for words in ((), ("own",), ("seen",), ("main",), ("own", "seen"), WORDS):
            sessions = Sessions(CopyBook(marks=words))
            sessions.ended(0, 2, True)
            sessions.answered(0, 4)
            sessions.ended(0, 6, False)
            at = {"own": 2, "seen": 4, "main": 6}
            for position in range(8):
                wanted = all(at[word] <= position for word in words)
                self.assertIs(sessions.lets(0, position), wanted)
                self.assertIs(sessions.lets(1, position), True)

    def test_broken_looks_at_the_promises(self):
        for words in ((), ("own",), ("seen",), ("main",), ("own", "main"), WORDS):
            sessions = Sessions(CopyBook(promises=words, marks=("own",)))
            sessions.ended(0, 2, True)
            sessions.answered(0, 4)
            sessions.ended(0, 6, False)
            at = {"own": 2, "seen": 4, "main": 6}
            for position in range(8):
                self.assertEqual(sessions.broken(0, position), tuple(word for word in words if at[word] > position))
                self.assertEqual(sessions.broken(2, position), ())

    def test_served_is_not_looked_at(self):
        for served in (True, False):
            sessions = Sessions(CopyBook(served=served, marks=("own",), promises=("own",)))
            sessions.ended(0, 1, True)
            self.assertEqual((sessions.lets(0, 1), sessions.lets(0, 0)), (True, False))
            self.assertEqual((sessions.broken(0, 1), sessions.broken(0, 0)), ((), ("own",)))
