import unittest

from bookstogether.errors import InvalidRow, InvalidStatement, InvalidStore, UnknownTable
from bookstogether.heaps import Heap
from bookstogether.rows import altered
from bookstogether.running import run_plainly
from bookstogether.upsertoutcomes import least_names, parting, taken_back, unsteady, upsert_outcomes
from bookstogether.worlds import World

from tests.samples import ALWAYS, ROWS, WORLD, chances, plain_clash, plain_truth, random_condition, random_row
from tests.samples import random_world

TWO = World(("a", "b"), [("p", "a", 0, ALWAYS), ("q", "a", 1, ALWAYS)])
ASKED = (0, 0, 0)


def upsert(row=ASKED, rules=("p",), sets=()):
    return ("upsert", "a", row, rules, sets)


def bags(world, table, sees, most):
    """All bags of at most so many rows, in their order."""
    rules = [rule for rule in world.rules if rule[1] == table]
    found = last = [[]]
    rows = [row for row in ROWS if sees(table, row)]
    for _ in range(most):
        last = [
            bag + [row]
            for bag in last
            for row in rows
            if (not bag or ROWS.index(bag[-1]) <= ROWS.index(row))
            and not any(plain_clash(rule, row, other) for rule in rules for other in bag)
        ]
        found = found + last
    return found


def tells(world, statement, bag, sees, times=1):
    heap = Heap()
    for row in bag:
        heap.put(statement[1], row)
    return [run_plainly(world, heap, statement, sees)[0] for _ in range(times)]


def random_upsert(chance, world):
    names = [rule[0] for rule in world.rules if rule[1] == "a"]
    columns = chance.sample(range(3), chance.randrange(4))
    sets = tuple((column, chance.choice((None, 0, 1, 2, "new", "new"))) for column in columns)
    return upsert(random_row(chance), tuple(chance.sample(names, chance.randrange(len(names) + 1))), sets)


def random_sees(chance):
    """None, which stands for seeing all rows, or somebody who sees some rows."""
    shown = random_condition(chance, 2)
    return chance.choice((None, lambda table, row: plain_truth(shown, row) != 0))


def everything(table, row):
    return True


class TestOutcomes(unittest.TestCase):
    def test_all_results(self):
        statement = upsert(sets=((1, 1),))
        told = upsert_outcomes(TWO, statement, sees=lambda table, row: row != (0, 1, 2))
        expected = {
            ("put",): [],
            ("kept",): [(0, 1, None)],
            ("changed",): [(0, None, None)],
            ("refused", "hidden"): [(0, None, 2)],
            ("refused", "duplicate", "q"): [(None, 0, None)],
        }
        self.assertEqual(told, expected)
        self.assertEqual(list(told), list(expected))

    def test_ambiguous_and_both_duplicates(self):
        told = upsert_outcomes(TWO, upsert(rules=("q", "p"), sets=((0, 1), (1, 1))))
        expected = {
            ("put",): [],
            ("changed",): [(None, 0, None)],
            ("refused", "ambiguous"): [(None, 0, None), (0, None, None)],
            ("refused", "duplicate", "p"): [(None, 0, None), (1, None, None)],
            ("refused", "duplicate", "q"): [(None, 0, None), (None, 1, None)],
        }
        self.assertEqual(told, expected)
        self.assertEqual(list(told), list(expected))

    def test_a_hidden_row(self):
        told = upsert_outcomes(TWO, upsert(), sees=lambda table, row: row != ASKED)
        self.assertEqual(told, {("refused", "hidden"): []})

    def test_the_bags_are_lists(self):
        for bag in upsert_outcomes(TWO, upsert()).values():
            self.assertIsInstance(bag, list)

    def test_duplicates_in_the_order_of_the_rules(self):
        told = list(upsert_outcomes(TWO, upsert(rules=())))
        self.assertEqual(told, [("put",), ("refused", "duplicate", "p"), ("refused", "duplicate", "q")])
        world = World(("a", "b"), [TWO.rules[1], TWO.rules[0]])
        told = list(upsert_outcomes(world, upsert(rules=())))
        self.assertEqual(told, [("put",), ("refused", "duplicate", "q"), ("refused", "duplicate", "p")])

    def test_against_a_plain_search(self):
        for chance in chances(25, "outcomes"):
            world = random_world(chance)
            statement, sees = random_upsert(chance, world), random_sees(chance)
            seen = sees or everything
            expected = {}
            for bag in bags(world, "a", seen, 2):
                tell = tells(world, statement, bag, seen)[0]
                expected.setdefault(tell if tell[0] == "refused" else tell[:1], bag)
            self.assertEqual(upsert_outcomes(world, statement, sees=sees), expected)


class TestParting(unittest.TestCase):
    def test_the_same(self):
        self.assertIsNone(parting(TWO, upsert(), upsert()))
        self.assertIsNone(parting(TWO, upsert(sets=((0, 0),)), upsert(sets=((0, "new"),))))

    def test_the_empty_bag(self):
        self.assertEqual(parting(TWO, upsert(), upsert((0, 0, 1))), [])

    def test_one_row(self):
        self.assertEqual(parting(TWO, upsert(), upsert(sets=((2, 0),))), [(0, None, None)])
        self.assertEqual(parting(TWO, upsert(), upsert(rules=("q",))), [(None, 0, None)])

    def test_only_bags_of_seen_rows(self):
        sees = lambda table, row: row[2] == 0 and row[1] is not None
        self.assertIsNone(parting(TWO, upsert(), upsert(sets=((2, 0),)), sees=sees))
        self.assertEqual(parting(TWO, upsert(), upsert(sets=((1, 0),)), sees=sees), [(0, 1, 0)])

    def test_errors_in_their_order(self):
        good = upsert()
        other = ("upsert", "b", ASKED, (), ())
        question = ("count", "a", ALWAYS, "")
        for first, second, error in (
            (question, ("put", "x", ASKED), InvalidStatement),
            (("put", "x", ASKED), question, UnknownTable),
            (upsert((0, 0)), ("put", "x", ASKED), InvalidRow),
            (good, ("put", "x", ASKED), UnknownTable),
            (good, question, InvalidStatement),
            (other, upsert((0, 0)), InvalidRow),
            (good, other, InvalidStatement),
        ):
            with self.assertRaises(error, msg=(first, second)) as caught:
                parting(TWO, first, second)
            self.assertIs(type(caught.exception), error)

    def test_against_a_plain_search_in_bags_of_two_rows(self):
        for chance in chances(25, "parting"):
            world = random_world(chance)
            sees = random_sees(chance)
            first = random_upsert(chance, world)
            second = first[:3] + random_upsert(chance, world)[3:]
            seen = sees or everything
            expected = None
            for bag in bags(world, "a", seen, 2):
                if tells(world, first, bag, seen) != tells(world, second, bag, seen):
                    expected = bag
                    break
            self.assertEqual(parting(world, first, second, sees=sees), expected)


class TestLeastNames(unittest.TestCase):
    def test_none_needed(self):
        self.assertEqual(least_names(TWO, upsert(rules=())), ())
        # A row that has no group under the rules clashes with none.
        self.assertEqual(least_names(TWO, upsert((None, None, 0), ("q", "p"))), ())
        self.assertEqual(least_names(TWO, upsert((None, 0, 0), ("q", "p"))), ("q",))

    def test_one_needed(self):
        self.assertEqual(least_names(TWO, upsert((0, None, 0), ("q", "p"))), ("p",))
        twins = World(("a", "b"), [("p", "a", 0, ALWAYS), ("q", "a", 0, ALWAYS)])
        self.assertEqual(least_names(twins, upsert(rules=("q", "p"))), ("q",))
        self.assertEqual(least_names(twins, upsert(rules=("p", "q"))), ("p",))

    def test_both_needed(self):
        self.assertEqual(least_names(TWO, upsert(rules=("q", "p"))), ("q", "p"))

    def test_sees(self):
        sees = lambda table, row: row == ASKED
        self.assertEqual(least_names(TWO, upsert(rules=("q", "p")), sees=sees), ("q",))
        self.assertEqual(least_names(TWO, upsert(rules=("q", "p")), sees=lambda table, row: False), ())

    def test_against_a_plain_search(self):
        for chance in chances(25, "names"):
            world = random_world(chance)
            sees = random_sees(chance)
            statement = random_upsert(chance, world)
            names = statement[3]
            tuples = [()] + [(name,) for name in names] + [names]
            expected = [
                fewer for fewer in tuples if parting(world, statement, statement[:3] + (fewer, statement[4]),
                                                     sees=sees) is None
            ]
            self.assertEqual(least_names(world, statement, sees=sees), expected[0])


class TestUnsteady(unittest.TestCase):
    def test_steady(self):
        self.assertIsNone(unsteady(TWO, upsert()))
        self.assertIsNone(unsteady(TWO, upsert(sets=((2, "new"),))))

    def test_a_row_without_groups_is_put_again(self):
        self.assertEqual(unsteady(TWO, upsert((None, None, 0))), [])

    def test_changed_again(self):
        # The put row is changed by the second run.
        self.assertEqual(unsteady(TWO, upsert(sets=((2, 1),))), [])

    def test_one_row(self):
        # A changed row has left its group, so that the second run puts one.
        statement = upsert((0, None, 1), sets=((0, 1), (2, 1)))
        self.assertEqual(unsteady(TWO, statement), [])
        sees = lambda table, row: row != (1, None, 1)
        self.assertEqual(unsteady(TWO, statement, sees=sees), [(0, 0, None)])

    def test_against_a_plain_search_in_bags_of_two_rows(self):
        for chance in chances(25, "unsteady"):
            world = random_world(chance)
            sees = random_sees(chance)
            statement = random_upsert(chance, world)
            seen = sees or everything
            expected = None
            for bag in bags(world, "a", seen, 2):
                if tells(world, statement, bag, seen, times=2)[1][0] in ("put", "changed"):
                    expected = bag
                    break
            self.assertEqual(unsteady(world, statement, sees=sees), expected)


class TestErrorsOfTheStatement(unittest.TestCase):
    def test_errors(self):
        for judge in (upsert_outcomes, least_names, unsteady):
            for statement, error in (
                (("put", "x", ASKED), UnknownTable),
                (("put", "a", ASKED), InvalidStatement),
                (("count", "a", ALWAYS, ""), InvalidStatement),
                (upsert((0, 0)), InvalidRow),
            ):
                with self.assertRaises(error) as caught:
                    judge(TWO, statement)
                self.assertIs(type(caught.exception), error)


class TestTakenBack(unittest.TestCase):
    def test_put(self):
        rows = [(2, 0, 0), ASKED, (None, 0, 0), ASKED]
        self.assertEqual(taken_back(rows, ("put", ASKED)), [(None, 0, 0), ASKED, (2, 0, 0)])
        self.assertEqual(rows, [(2, 0, 0), ASKED, (None, 0, 0), ASKED])

    def test_changed(self):
        told = ("changed", (2, 2, 2), ASKED)
        self.assertEqual(taken_back([ASKED, (1, 1, 1)], told), [(1, 1, 1), (2, 2, 2)])

    def test_nothing_was_stored(self):
        rows = [(2, 0, 0), ASKED]
        for told in (("kept", ASKED), ("kept", (1, 1, 1)), ("refused", "hidden"), ("refused", "duplicate", "p")):
            self.assertEqual(taken_back(rows, told), [ASKED, (2, 0, 0)])

    def test_missing_rows(self):
        for rows, told in (
            ([], ("put", ASKED)),
            ([(1, 1, 1)], ("put", ASKED)),
            ([(2, 2, 2)], ("changed", (2, 2, 2), ASKED)),
        ):
            with self.assertRaises(InvalidStore):
                taken_back(rows, told)

    def test_behind_upserts(self):
        for chance in chances(60, "back"):
            world = random_world(chance)
            heap = Heap()
            for _ in range(6):
                statement = random_upsert(chance, world)
                before = heap.bag("a")
                tell, _ = run_plainly(world, heap, statement, everything)
                self.assertEqual(taken_back(heap.bag("a")[::-1], tell), before)


class TestHelpers(unittest.TestCase):
    def test_bags(self):
        found = bags(WORLD, "a", everything, 2)
        self.assertEqual(found[:3], [[], [ROWS[0]], [ROWS[1]]])
        self.assertEqual(found[65], [ROWS[0], ROWS[0]])
        self.assertNotIn([ASKED, altered(ASKED, 2, 1)], found)
