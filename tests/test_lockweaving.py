import itertools
import math
import unittest

from bookstogether.lockbooks import LockBook
from bookstogether.locktables import LockTable
from bookstogether.lockweaving import able, finishing, reached, ways, weave

from tests.samples import chances, plain_meet

A, B, C, D = (("table", name) for name in "abcd")


def takes(*nodes):
    """A script that takes each node alone, step by step."""
    return [[(node, "x")] for node in nodes]


def random_script(chance, most=4):
    modes = ("x", "x", "s", "is", "ix")
    steps = range(chance.randrange(most + 1))
    return [[(chance.choice((A, B, C)), chance.choice(modes)) for _ in range(chance.randrange(3))] for _ in steps]


def plain_moves(state, scripts):
    """The places of the scripts that can move, told from all granted steps."""
    found = []
    held = [script[:at] if at <= len(script) else [] for script, at in zip(scripts, state)]
    for place, script in enumerate(scripts):
        granted = [step for steps in held[:place] + held[place + 1:] for step in steps]
        at = state[place]
        if at == len(script) or at < len(script) and not any(plain_meet(script[at], step) for step in granted):
            found.append(place)
    return found


def after(state, place):
    return tuple(at + (beside == place) for beside, at in enumerate(state))


def plain_ways(state, scripts):
    """All ways of a state, in ascending order, one by one."""
    if all(at > len(script) for at, script in zip(state, scripts)):
        return [[]]
    return [[place] + way for place in plain_moves(state, scripts) for way in plain_ways(after(state, place), scripts)]


class TestWeave(unittest.TestCase):
    def weave(self, *scripts, turns, **options):
        return weave(LockBook(read="store", **options), *scripts, turns=turns)

    def test_one_script(self):
        events = self.weave(takes(A, B), turns=[0, 0, 0, 0, 0])
        words = [("granted", 0), ("granted", 1), ("ended", 2), ("idle", 2), ("idle", 2)]
        self.assertEqual(events, [(0, *pair) for pair in words])

    def test_a_script_without_steps(self):
        self.assertEqual(self.weave([], turns=[0, 0]), [(0, "ended", 0), (0, "idle", 0)])

    def test_no_turns_and_no_scripts(self):
        self.assertEqual(self.weave(takes(A), turns=[]), [])
        self.assertEqual(self.weave(turns=()), [])

    def test_a_step_without_needs(self):
        self.assertEqual(self.weave([[]], takes(A), turns=(1, 0, 0))[1:], [(0, "granted", 0), (0, "ended", 1)])

    def test_waiting_until_the_end(self):
        events = self.weave(takes(A), takes(A), turns=[0, 1, 1, 0, 1, 1])
        words = ["granted", "waits", "waits", "ended", "granted", "ended"]
        self.assertEqual([word for _, word, _ in events], words)
        self.assertEqual([step for _, _, step in events], [0, 0, 0, 1, 0, 1])

    def test_back_takes_all_steps_back(self):
        events = self.weave(takes(A), takes(B, A), turns=[0, 1, 1, 1, 0, 1, 1, 1], clash="back")
        expected = [(0, "granted", 0), (1, "granted", 0), (1, "back", 1), (1, "granted", 0), (0, "ended", 1)]
        self.assertEqual(events, expected + [(1, "granted", 1), (1, "ended", 2), (1, "idle", 2)])

    def test_back_releases_the_user(self):
        events = self.weave(takes(A), takes(B, A), takes(B), turns=[0, 1, 2, 1, 2], clash="back")
        self.assertEqual([word for _, word, _ in events], ["granted", "granted", "back", "back", "granted"])

    def test_age(self):
        # The older script waits and the younger one goes back; it is younger again when it comes again.
        events = self.weave(takes(A, B), takes(B, A), turns=[0, 1, 0, 1, 0, 1, 1], clash="age")
        words = ["granted", "granted", "waits", "back", "granted", "back", "back"]
        self.assertEqual([word for _, word, _ in events], words)

    def test_a_ring_that_waits_for_ever(self):
        events = self.weave(takes(A, B), takes(B, A), turns=[0, 1] + [0, 1] * 5)
        self.assertEqual({word for _, word, _ in events[2:]}, {"waits"})

    def test_locks_that_last_a_turn(self):
        events = self.weave(takes(A, B), takes(B, A), turns=[0, 1, 0, 1, 0, 1], lasts="turn")
        self.assertEqual([word for _, word, _ in events], ["granted"] * 4 + ["ended"] * 2)

    def test_what_is_handed_in_stays(self):
        scripts, turns = [takes(A), takes(A)], [0, 1, 0]
        self.weave(*scripts, turns=turns).clear()
        self.assertEqual((scripts, turns), ([takes(A), takes(A)], [0, 1, 0]))

    def test_turns_are_passed_by_keyword(self):
        with self.assertRaises(TypeError):
            weave(LockBook(), [0])

    def test_it_goes_on_exactly_if_the_script_can_move(self):
        seen = set()
        for chance in chances(150, "weave"):
            scripts = [random_script(chance) for _ in range(chance.randrange(1, 4))]
            turns = [chance.randrange(len(scripts)) for _ in range(20)]
            clash = chance.choice(("wait", "age", "back"))
            state = (0,) * len(scripts)
            for place, word, step in self.weave(*scripts, turns=turns, clash=clash):
                seen.add(word)
                self.assertEqual(step, min(state[place], len(scripts[place])))
                self.assertIs(word in ("granted", "ended"), place in able(state, *scripts))
                if word in ("granted", "ended"):
                    state = after(state, place)
                elif word == "back":
                    state = tuple(0 if beside == place else at for beside, at in enumerate(state))
                self.assertEqual(word == "idle", step == len(scripts[place]) and word != "ended")
        self.assertEqual(seen, {"granted", "waits", "back", "ended", "idle"})

    def test_it_is_what_a_table_answers(self):
        for chance in chances(80, "table"):
            scripts = [random_script(chance) for _ in range(3)]
            turns = [chance.randrange(3) for _ in range(20)]
            clash, lasts = chance.choice(("wait", "age", "back")), chance.choice(("end", "turn"))
            locks, granted = LockTable(LockBook(read="store", clash=clash, lasts=lasts)), [0, 0, 0]
            expected = []
            for user in turns:
                at, steps = granted[user], scripts[user]
                if at is None:
                    expected.append((user, "idle", len(steps)))
                elif at == len(steps):
                    expected.append((user, "ended", at))
                    locks.release(user)
                    granted[user] = None
                else:
                    word = locks.ask(user, steps[at])
                    expected.append((user, word, at))
                    if word == "granted":
                        locks.turn_over(user)
                        granted[user] += 1
                    if word == "back":
                        locks.release(user)
                        granted[user] = 0
            self.assertEqual(self.weave(*scripts, turns=turns, clash=clash, lasts=lasts), expected)


class TestStates(unittest.TestCase):
    def test_able(self):
        scripts = [takes(A, B), takes(A), []]
        self.assertEqual(able((0, 0, 0), *scripts), (0, 1, 2))
        self.assertEqual(able((1, 0, 0), *scripts), (0, 2))
        self.assertEqual(able((2, 0, 1), *scripts), (0,))
        self.assertEqual(able((3, 0, 1), *scripts), (1,))
        self.assertEqual(able((3, 1, 1), *scripts), (1,))
        self.assertEqual(able((3, 2, 1), *scripts), ())
        self.assertEqual(able(()), ())

    def test_a_ring(self):
        scripts = [takes(A, B), takes(B, A)]
        self.assertEqual(able((1, 1), *scripts), ())
        self.assertEqual(list(reached((1, 1), *scripts)), [(1, 1)])
        self.assertEqual(ways((1, 1), *scripts), 0)
        self.assertIsNone(finishing((1, 1), *scripts))
        self.assertEqual(ways((0, 0), *scripts), 2)
        self.assertEqual(finishing((0, 0), *scripts), [0, 0, 0, 1, 1, 1])
        self.assertEqual(finishing((0, 0), *scripts, nth=1), [1, 1, 1, 0, 0, 0])
        self.assertIsNone(finishing((0, 0), *scripts, nth=2))

    def test_a_step_meets_earlier_steps_too(self):
        scripts = [[[(A, "s")], [(B, "s")]], [[(B, "is")], [(A, "x")]]]
        self.assertEqual(able((2, 1), *scripts), (0,))
        self.assertEqual(able((0, 2), *scripts), (1,))

    def test_reached(self):
        found = list(reached((0, 0), takes(A), takes(A)))
        self.assertEqual(found, [(0, 0), (0, 1), (0, 2), (1, 0), (1, 2), (2, 0), (2, 1), (2, 2)])
        self.assertEqual(list(reached((2, 1), takes(A), takes(A))), [(2, 1), (2, 2)])
        self.assertEqual(list(reached((2, 2), takes(A), takes(A))), [(2, 2)])
        self.assertEqual(list(reached(())), [()])

    def test_reached_yields(self):
        states = reached((0,), takes(A))
        self.assertEqual([next(states), next(states), next(states)], [(0,), (1,), (2,)])

    def test_the_empty_way(self):
        self.assertEqual(ways((2,), takes(A)), 1)
        self.assertEqual(finishing((2,), takes(A)), [])
        self.assertIsNone(finishing((2,), takes(A), nth=1))
        self.assertEqual((ways(()), finishing(())), (1, []))

    def test_against_all_ways(self):
        numbers = set()
        for chance in chances(400, "ways"):
            scripts = [random_script(chance, 3) for _ in range(chance.randrange(1, 4))]
            start = (0,) * len(scripts)
            if chance.randrange(2):
                scripts = [takes(*[chance.choice((A, B, C)) for _ in range(chance.randrange(4))]) for _ in scripts]
                start = tuple(chance.randrange(len(script) + 2) for script in scripts)
            self.assertEqual(able(start, *scripts), tuple(plain_moves(start, scripts)))
            self.assertEqual(list(reached(start, *scripts)), self.all_states(start, scripts))
            expected = plain_ways(start, scripts)
            self.assertEqual(ways(start, *scripts), len(expected))
            numbers.add(min(len(expected), 100))
            picks = sorted({0, 1, len(expected) // 2, len(expected) - 1, len(expected), len(expected) + 5} - {-1})
            for nth in picks:
                way = expected[nth] if nth < len(expected) else None
                self.assertEqual(finishing(start, *scripts, nth=nth), way)
        self.assertLessEqual({0, 1, 100}, numbers)

    def all_states(self, start, scripts):
        found, new = {start}, {start}
        while new:
            new = {after(state, place) for state in new for place in plain_moves(state, scripts)} - found
            found |= new
        return sorted(found)

    def test_three_long_scripts(self):
        scripts = [takes(*[("row", 10 * place + at) for at in range(10)]) for place in range(3)]
        many = math.factorial(33) // math.factorial(11) ** 3
        self.assertEqual(ways((0, 0, 0), *scripts), many)
        self.assertEqual(len(list(reached((0, 0, 0), *scripts))), 12 ** 3)
        self.assertEqual(finishing((0, 0, 0), *scripts, nth=many - 1), [2] * 11 + [1] * 11 + [0] * 11)
        self.assertIsNone(finishing((0, 0, 0), *scripts, nth=many))
        # The middle one of the ways begins in the middle.
        self.assertEqual(finishing((0, 0, 0), *scripts, nth=many // 2)[0], 1)

    def test_the_state_stays(self):
        scripts = [takes(A, B), takes(C)]
        finishing((0, 0), *scripts).clear()
        self.assertEqual(scripts, [takes(A, B), takes(C)])
        self.assertEqual(len(finishing((0, 0), *scripts)), 5)


class TestWeavingAndWays(unittest.TestCase):
    def test_a_way_as_turns_ends_all_scripts(self):
        for chance in chances(40, "as turns"):
            scripts = [random_script(chance) for _ in range(3)]
            way = finishing((0, 0, 0), *scripts)
            for turns in [way] if way is not None else []:
                for clash in ("wait", "age", "back"):
                    events = weave(LockBook(read="store", clash=clash), *scripts, turns=turns)
                    self.assertEqual(sum(word == "ended" for _, word, _ in events), 3)
                    self.assertLessEqual({word for _, word, _ in events}, {"granted", "ended"})

    def test_scripts_one_behind_another_always_end(self):
        for order in itertools.permutations(range(3)):
            turns = [place for place in order for _ in range(3)]
            events = weave(LockBook(), takes(A, B), takes(B, A), takes(A, A), turns=turns)
            self.assertEqual([word for _, word, _ in events], ["granted", "granted", "ended"] * 3)
