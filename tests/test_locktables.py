import itertools
import unittest

from bookstogether.lockbooks import LockBook
from bookstogether.locktables import LockTable

from tests.samples import chances, plain_meet

A, B, C, D = (("table", name) for name in "abcd")


def table(**options):
    return LockTable(LockBook(read="store", **options))


class TestAsk(unittest.TestCase):
    def test_at_first(self):
        locks = table()
        for user in range(3):
            told = (locks.held(user), locks.age(user), locks.waiting(user), locks.clashing(user, [(A, "x")]))
            self.assertEqual(told, ((), None, (), ()))
        self.assertEqual(locks.ring(), ())

    def test_granted(self):
        locks = table()
        self.assertEqual(locks.ask(0, [(A, "s")]), "granted")
        self.assertEqual(locks.ask(1, [(A, "s"), (B, "x")]), "granted")
        self.assertEqual(locks.ask(2, [(A, "is")]), "granted")
        self.assertEqual([locks.held(user) for user in range(3)], [((A, "s"),), ((A, "s"), (B, "x")), ((A, "is"),)])

    def test_needs_that_are_held_already(self):
        locks = table()
        locks.ask(0, [(A, "s"), (B, "is"), (A, "s")])
        self.assertEqual(locks.held(0), ((A, "s"), (B, "is")))
        self.assertEqual(locks.ask(0, [(B, "is"), (C, "x"), (A, "x"), (A, "s")]), "granted")
        self.assertEqual(locks.held(0), ((A, "s"), (B, "is"), (C, "x"), (A, "x")))

    def test_own_locks_are_not_in_the_way(self):
        locks = table(clash="back")
        locks.ask(0, [(A, "s")])
        self.assertEqual(locks.ask(0, [(A, "x")]), "granted")
        self.assertEqual(locks.clashing(0, [(A, "x")]), ())
        self.assertEqual(locks.clashing(1, [(A, "is")]), (0,))

    def test_all_or_nothing(self):
        for clash in ("wait", "age", "back"):
            locks = table(clash=clash)
            locks.ask(0, [(B, "x")])
            self.assertNotEqual(locks.ask(1, [(A, "x"), (B, "s")]), "granted")
            self.assertEqual((locks.held(1), locks.age(1)), ((), None))
            self.assertEqual(locks.ask(2, [(A, "x")]), "granted")

    def test_clashing_users_ascend(self):
        locks = table()
        for user in (2, 0, 1):
            locks.ask(user, [(A, "ix"), (("row", user), "x")])
        self.assertEqual(locks.clashing(1, [(A, "s")]), (0, 2))
        self.assertEqual(locks.clashing(3, [(A, "s")]), (0, 1, 2))
        self.assertEqual(locks.clashing(0, [(("row", 2), "s"), (("row", 0), "s")]), (2,))
        self.assertEqual(locks.clashing(0, []), ())

    def test_no_needs_are_granted(self):
        locks = table(clash="back")
        locks.ask(0, [(A, "x")])
        self.assertEqual(locks.ask(1, []), "granted")
        self.assertEqual((locks.held(1), locks.age(1)), ((), 1))

    def test_what_is_handed_in_and_returned_is_free(self):
        locks = table()
        needs = [(A, "s")]
        locks.ask(0, needs)
        needs.append((B, "x"))
        self.assertEqual(locks.held(0), ((A, "s"),))
        self.assertEqual(locks.ask(1, ((B, "x"),)), "granted")


class TestAnswers(unittest.TestCase):
    def test_wait(self):
        locks = table()
        locks.ask(0, [(A, "x")])
        self.assertEqual(locks.ask(1, [(A, "x")]), "waits")
        locks.ask(2, [(B, "x")])
        self.assertEqual(locks.ask(0, [(B, "s")]), "waits")

    def test_back(self):
        locks = table(clash="back")
        locks.ask(0, [(A, "x")])
        locks.ask(1, [(B, "x")])
        self.assertEqual(locks.ask(0, [(B, "x")]), "back")
        self.assertEqual(locks.ask(1, [(A, "x")]), "back")
        self.assertEqual((locks.held(0), locks.age(0), locks.waiting(0)), (((A, "x"),), 0, ()))

    def test_age(self):
        locks = table(clash="age")
        locks.ask(1, [(A, "s")])
        locks.ask(0, [(A, "s"), (B, "x")])
        locks.ask(2, [(C, "x")])
        # The older one waits, a younger one and one without an age do not.
        self.assertEqual(locks.ask(1, [(B, "x")]), "waits")
        self.assertEqual(locks.ask(2, [(B, "x")]), "back")
        self.assertEqual(locks.ask(0, [(C, "x")]), "waits")
        # It must be older than all of those in the way.
        self.assertEqual(locks.ask(0, [(A, "x"), (C, "x")]), "back")
        self.assertEqual(locks.ask(3, [(A, "x")]), "back")

    def test_ages_count_grants(self):
        locks = table()
        locks.ask(2, [(A, "x")])
        locks.ask(1, [(A, "x")])
        locks.ask(0, [(B, "x")])
        locks.ask(2, [(C, "x")])
        self.assertEqual([locks.age(user) for user in range(3)], [1, None, 0])

    def test_an_age_is_never_given_again(self):
        locks = table(clash="age")
        locks.ask(0, [(A, "s")])
        locks.release(0)
        self.assertIsNone(locks.age(0))
        locks.ask(1, [(A, "s")])
        locks.ask(0, [(B, "s")])
        self.assertEqual((locks.age(0), locks.age(1)), (2, 1))
        # It was the older one, but is not any more.
        self.assertEqual(locks.ask(0, [(A, "x")]), "back")
        self.assertEqual(locks.ask(1, [(B, "x")]), "waits")


class TestRelease(unittest.TestCase):
    def test_release(self):
        for lasts in ("end", "turn"):
            locks = table(lasts=lasts)
            locks.ask(0, [(A, "x")])
            locks.ask(1, [(A, "x")])
            self.assertIsNone(locks.release(0))
            self.assertEqual((locks.held(0), locks.age(0), locks.waiting(1)), ((), None, ()))
            self.assertEqual(locks.ask(1, [(A, "x")]), "granted")

    def test_release_of_a_waiting_user(self):
        locks = table()
        locks.ask(0, [(A, "x")])
        locks.ask(1, [(B, "x")])
        locks.ask(1, [(A, "x")])
        self.assertEqual(locks.waiting(1), (0,))
        locks.release(1)
        self.assertEqual((locks.waiting(1), locks.held(1)), ((), ()))

    def test_release_of_nothing(self):
        locks = table()
        self.assertIsNone(locks.release(2))
        self.assertIsNone(locks.turn_over(2))
        self.assertEqual((locks.held(2), locks.age(2)), ((), None))

    def test_turn_over(self):
        locks = table(lasts="end")
        locks.ask(0, [(A, "x")])
        self.assertIsNone(locks.turn_over(0))
        self.assertEqual((locks.held(0), locks.age(0)), (((A, "x"),), 0))
        locks = table(lasts="turn")
        locks.ask(0, [(A, "x")])
        locks.ask(1, [(A, "x")])
        locks.turn_over(0)
        self.assertEqual((locks.held(0), locks.age(0), locks.waiting(1)), ((), 0, ()))
        locks.ask(0, [(B, "x")])
        self.assertEqual((locks.held(0), locks.age(0)), (((B, "x"),), 0))


class TestWaiting(unittest.TestCase):
    def test_it_waits_for_those_that_were_in_the_way_then(self):
        locks = table()
        locks.ask(2, [(A, "s")])
        locks.ask(0, [(A, "s")])
        locks.ask(1, [(A, "x")])
        self.assertEqual(locks.waiting(1), (0, 2))
        locks.ask(3, [(A, "s")])
        self.assertEqual(locks.waiting(1), (0, 2))
        self.assertEqual(locks.waiting(0), ())

    def test_locks_that_are_dropped_and_taken_again(self):
        locks = table(lasts="turn")
        locks.ask(0, [(A, "s")])
        locks.ask(2, [(A, "s")])
        locks.ask(1, [(A, "x")])
        locks.turn_over(0)
        self.assertEqual(locks.waiting(1), (2,))
        locks.ask(0, [(A, "s")])
        self.assertEqual(locks.waiting(1), (2,))
        self.assertEqual(locks.ask(1, [(A, "x")]), "waits")
        self.assertEqual(locks.waiting(1), (0, 2))

    def test_the_last_ask_counts(self):
        locks = table()
        locks.ask(0, [(A, "x")])
        locks.ask(2, [(B, "x")])
        locks.ask(1, [(A, "x"), (B, "x")])
        locks.ask(1, [(B, "x")])
        self.assertEqual(locks.waiting(1), (2,))
        locks.ask(1, [(C, "x")])
        self.assertEqual(locks.waiting(1), ())

    def test_nobody_waits_after_back(self):
        locks = table(clash="age")
        locks.ask(1, [(A, "x")])
        locks.ask(0, [(B, "x")])
        locks.ask(2, [(C, "x")])
        self.assertEqual(locks.ask(0, [(C, "x")]), "waits")
        self.assertEqual(locks.ask(0, [(A, "x")]), "back")
        self.assertEqual(locks.waiting(0), ())

    def test_the_end_of_its_own_turn_ends_no_waiting(self):
        locks = table(lasts="turn")
        locks.ask(0, [(A, "x")])
        locks.ask(1, [(A, "x")])
        locks.turn_over(1)
        self.assertEqual(locks.waiting(1), (0,))


class TestRing(unittest.TestCase):
    def held_by_each(self):
        locks = table()
        for user, node in enumerate((A, B, C)):
            locks.ask(user, [(node, "x")])
        return locks

    def test_two(self):
        locks = self.held_by_each()
        locks.ask(2, [(B, "x")])
        self.assertEqual(locks.ring(), ())
        locks.ask(1, [(C, "x")])
        self.assertEqual(locks.ring(), (1, 2))
        locks.release(1)
        self.assertEqual(locks.ring(), ())

    def test_three(self):
        locks = self.held_by_each()
        locks.ask(0, [(B, "s")])
        locks.ask(1, [(C, "s")])
        self.assertEqual(locks.ring(), ())
        locks.ask(2, [(A, "s")])
        self.assertEqual(locks.ring(), (0, 1, 2))
        locks = self.held_by_each()
        for user, node in ((0, C), (2, B), (1, A)):
            locks.ask(user, [(node, "s")])
        self.assertEqual(locks.ring(), (0, 2, 1))

    def test_a_shorter_one_comes_first(self):
        locks = self.held_by_each()
        locks.ask(0, [(B, "s")])
        locks.ask(1, [(C, "s")])
        locks.ask(2, [(A, "s"), (B, "s")])
        self.assertEqual(locks.ring(), (1, 2))

    def test_of_several_the_first_one(self):
        locks = self.held_by_each()
        for user in (2, 1, 0):
            locks.ask(user, [(A, "s"), (B, "s"), (C, "s")])
        self.assertEqual(locks.ring(), (0, 1))
        locks.release(1)
        self.assertEqual(locks.ring(), (0, 2))

    def test_against_all_tuples(self):
        rings = set()
        for chance in chances(400, "rings"):
            clash, lasts = chance.choice(("wait", "wait", "age", "back")), chance.choice(("end", "turn"))
            book = LockBook(read="store", clash=clash, lasts=lasts)
            locks, second = LockTable(book), SecondTable(book)
            for _ in range(30):
                user, act = chance.randrange(3), chance.randrange(12)
                if act == 0:
                    locks.release(user)
                    second.release(user)
                elif act == 1:
                    locks.turn_over(user)
                    second.turn_over(user)
                else:
                    nodes = [chance.choice((A, B, C, D)) for _ in range(chance.choice((0, 1, 1, 1, 2)))]
                    needs = [(node, chance.choice(("s", "x", "x", "is"))) for node in nodes]
                    self.assertEqual(locks.ask(user, needs), second.ask(user, needs))
                self.assertEqual(locks.ring(), second.ring())
                for other in range(3):
                    self.assertEqual(locks.held(other), tuple(second.locks[other]))
                    self.assertEqual(locks.age(other), second.ages[other])
                    self.assertEqual(locks.waiting(other), tuple(sorted(second.waits[other])))
                rings.add((book.clash, locks.ring()))
        self.assertEqual({ring for clash, ring in rings if clash != "wait"}, {()})
        self.assertLessEqual({(), (0, 1), (0, 2), (1, 2), (0, 1, 2), (0, 2, 1)}, {ring for _, ring in rings})


class SecondTable:
    """The same, told in another way: all that happened is in lists of three users."""

    def __init__(self, book):
        self.book = book
        self.locks = [[], [], []]
        self.ages = [None, None, None]
        self.waits = [set(), set(), set()]
        self.given = 0

    def ask(self, user, needs):
        way = {other for other in range(3) if other != user and plain_meet(needs, self.locks[other])}
        self.waits[user] = set()
        if not way:
            self.locks[user] += [need for at, need in enumerate(needs) if need not in self.locks[user] + needs[:at]]
            if self.ages[user] is None:
                self.ages[user] = self.given
                self.given += 1
            return "granted"
        older = self.ages[user] is not None and self.ages[user] < min(self.ages[other] for other in way)
        if self.book.clash == "wait" or self.book.clash == "age" and older:
            self.waits[user] = way
            return "waits"
        return "back"

    def drop(self, user):
        self.locks[user] = []
        for waits in self.waits:
            waits.discard(user)

    def turn_over(self, user):
        if self.book.lasts == "turn":
            self.drop(user)

    def release(self, user):
        self.drop(user)
        self.ages[user], self.waits[user] = None, set()

    def ring(self):
        for size in (2, 3):
            for users in itertools.permutations(range(3), size):
                closed = all(users[(at + 1) % size] in self.waits[users[at]] for at in range(size))
                if closed and users[0] == min(users):
                    return users
        return ()
