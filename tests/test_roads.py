import itertools
import unittest

from bookstogether.roads import best_road, claim_gap, claim_rules, least_claim, road_rows
from bookstogether.worlds import World

from tests.samples import ALWAYS, NEVER, ROWS, chances, plain_outcome, random_condition, random_row
from tests.test_packing import FREE, PAIRED, random_packed_world, searched_most, stand_together

VALUES = (None, 0, 1, 2)
KNOWN = ("not", ("unknown", 0))


def plain_road(column, condition, value):
    return [row for row in ROWS if plain_outcome(condition, row) == "true" and row[column] == value]


def lengths(world, column, condition):
    """How many rows may stand together under each value; 1,000 if there is no end."""
    return [searched_most(world, "a", plain_road(column, condition, value), 1000) for value in VALUES]


class TestRoadRows(unittest.TestCase):
    def test_rows(self):
        self.assertEqual(road_rows(1, ALWAYS), ROWS)
        self.assertEqual(road_rows(1, ("equal", 0, 2)), [row for row in ROWS if row[0] == 2])
        self.assertEqual(road_rows(1, ALWAYS, (2, None)), [row for row in ROWS if row[1] in (2, None)])
        self.assertEqual(road_rows(1, ("below", 2, 1), span=(0,)), [(value, 0, 0) for value in VALUES])
        self.assertEqual(road_rows(1, ALWAYS, ()), [])
        self.assertEqual(road_rows(1, NEVER), [])

    def test_what_is_unknown_or_an_error_is_not_listed(self):
        self.assertEqual(road_rows(0, ("equal", 1, 0), (None,)), [(None, 0, value) for value in VALUES])
        self.assertEqual(road_rows(0, ("quotient", 0, 1, 2), (2,)), [(2, 1, value) for value in VALUES])

    def test_lists_are_new(self):
        road_rows(1, ALWAYS).clear()
        self.assertEqual(len(road_rows(1, ALWAYS)), 64)


class TestBestRoad(unittest.TestCase):
    ONE, TWO, MANY = [(0, 0, 0), (0, 1, 0)], [(0, 0, 0), (1, 1, 0)], [FREE]

    def best(self, *roads, size=1000):
        return best_road(PAIRED, "a", list(roads), size=size)

    def test_the_least_one(self):
        self.assertEqual(self.best(("i", self.MANY), ("j", self.ONE), ("k", self.TWO)), "j")
        self.assertEqual(self.best(("i", self.TWO), ("j", self.MANY)), "i")
        self.assertEqual(self.best(("i", self.TWO), ("j", [])), "j")

    def test_of_several_the_first_one(self):
        self.assertEqual(self.best(("j", self.ONE), ("i", [(2, 2, 2)])), "j")
        # With a size of 1, or of 0, the longer lists are no longer longer.
        self.assertEqual(self.best(("i", self.TWO), ("j", self.ONE), size=1), "i")
        self.assertEqual(self.best(("i", self.MANY), ("j", []), size=0), "i")

    def test_no_roads_and_a_single_one(self):
        self.assertEqual(self.best(), "")
        self.assertEqual(self.best(("i", self.MANY)), "i")
        self.assertEqual(self.best(("i", [])), "i")

    def test_against_a_plain_search(self):
        for chance in chances(40, "best"):
            world, size = random_packed_world(chance), chance.choice((0, 1, 2, 3, 1000))
            roads = [(name, [random_row(chance) for _ in range(chance.randrange(6))]) for name in "ijkl"]
            told = [searched_most(world, "a", rows, size) for _, rows in roads]
            self.assertEqual(best_road(world, "a", roads, size=size), "ijkl"[told.index(min(told))])


class TestClaimGap(unittest.TestCase):
    def gap(self, world, column, condition, most):
        told = claim_gap(world, "a", column, condition, most)
        if told is not None:
            value, rows = told
            road = plain_road(column, condition, value)
            self.assertEqual(len(rows), most + 1)
            self.assertTrue(all(row in road for row in rows))
            self.assertTrue(stand_together(world, "a", rows))
            self.assertEqual(rows, [row for row in ROWS for _ in range(rows.count(row))])
        return told

    def test_a_claim_of_0(self):
        self.assertIsNone(self.gap(PAIRED, 0, NEVER, 0))
        self.assertEqual(self.gap(PAIRED, 0, ("equal", 0, 2), 0)[0], 2)
        self.assertEqual(self.gap(PAIRED, 0, ALWAYS, 0)[0], None)

    def test_the_column_of_a_rule(self):
        # Under each known value of column 0, p lets one row stand.
        self.assertIsNone(self.gap(PAIRED, 0, KNOWN, 1))
        self.assertEqual(self.gap(PAIRED, 0, KNOWN, 0)[0], 0)
        # Under the unknown one, q lets three of them, and those without a group let any number.
        self.assertEqual(len(self.gap(PAIRED, 0, ALWAYS, 999)[1]), 1000)
        known = ("not", ("unknown", 1))
        self.assertEqual(self.gap(PAIRED, 0, known, 2)[0], None)
        self.assertIsNone(self.gap(PAIRED, 0, known, 3))

    def test_the_first_value(self):
        world = World(("a", "b"), [("p", "a", 1, ("not", ("equal", 0, 1)))])
        known = ("and", KNOWN, ("not", ("unknown", 1)))
        self.assertEqual(self.gap(world, 0, known, 0)[0], 0)
        self.assertEqual(self.gap(world, 0, known, 3)[0], 1)
        self.assertEqual(len(self.gap(world, 0, known, 999)[1]), 1000)

    def test_against_a_plain_search(self):
        found = set()
        for chance in chances(60, "gap"):
            world, condition, column = random_packed_world(chance), random_condition(chance, 3), chance.randrange(3)
            if chance.randrange(2):
                condition = ("and", condition, ("not", ("or", ("unknown", 0), ("unknown", 1))))
            many = lengths(world, column, condition)
            for most in (0, 1, 2, 3, 5, 999):
                told = self.gap(world, column, condition, most)
                values = [value for value, length in zip(VALUES, many) if length > most]
                self.assertEqual(told if told is None else told[:1], tuple(values[:1]) or None)
                found.add((most, told is None))
            expected = None if 1000 in many else max(many)
            self.assertEqual(least_claim(world, "a", column, condition), expected)
            found.add(expected)
        self.assertLessEqual({None, 0, 1, 3, (0, True), (0, False), (2, False), (999, True), (999, False)}, found)


class TestLeastClaim(unittest.TestCase):
    def test_simple(self):
        self.assertEqual(least_claim(PAIRED, "a", 0, NEVER), 0)
        self.assertEqual(least_claim(PAIRED, "a", 0, KNOWN), 1)
        self.assertEqual(least_claim(PAIRED, "a", 0, ("not", ("unknown", 1))), 3)
        self.assertEqual(least_claim(PAIRED, "a", 2, ("not", ("and", ("unknown", 0), ("unknown", 1)))), 6)

    def test_free_rows(self):
        self.assertIsNone(least_claim(PAIRED, "a", 0, ALWAYS))
        self.assertIsNone(least_claim(World(("a", "b")), "a", 0, ("equal", 0, 2)))

    def test_it_is_the_least_one(self):
        for condition in (NEVER, KNOWN, ("not", ("unknown", 1)), ("equal", 1, 0)):
            least = least_claim(PAIRED, "a", 0, condition)
            told = [claim_gap(PAIRED, "a", 0, condition, most) is None for most in range(least + 2)]
            self.assertEqual(told, [False] * least + [True, True])


class TestClaimRules(unittest.TestCase):
    def test_simple(self):
        self.assertEqual(claim_rules(PAIRED, "a", 0, NEVER, 0), ())
        self.assertEqual(claim_rules(PAIRED, "a", 0, KNOWN, 1), ("p",))
        self.assertEqual(claim_rules(PAIRED, "a", 1, ("equal", 1, 0), 1), ("q",))
        self.assertIsNone(claim_rules(PAIRED, "a", 0, ALWAYS, 999))
        self.assertIsNone(claim_rules(PAIRED, "a", 0, KNOWN, 0))

    def test_both_rules(self):
        either = ("not", ("and", ("unknown", 0), ("unknown", 1)))
        self.assertEqual(claim_rules(PAIRED, "a", 2, either, 6), ("p", "q"))
        self.assertIsNone(claim_rules(PAIRED, "a", 2, either, 5))

    def test_of_two_rules_the_first_one(self):
        rules = [("q", "a", 0, ALWAYS), ("r", "b", 0, ALWAYS), ("p", "a", 0, KNOWN)]
        self.assertEqual(claim_rules(World(("a", "b"), rules), "a", 0, KNOWN, 1), ("q",))
        self.assertEqual(claim_rules(World(("a", "b"), rules[::-1]), "a", 0, KNOWN, 1), ("p",))
        self.assertEqual(claim_rules(World(("a", "b"), rules), "b", 0, KNOWN, 3), ("r",))

    def test_against_a_plain_search(self):
        sizes = set()
        for chance in chances(60, "rules"):
            world, column = random_packed_world(chance), chance.randrange(3)
            condition = ("and", random_condition(chance, 3), ("not", ("and", ("unknown", 0), ("unknown", 1))))
            rules = [rule for rule in world.rules if rule[1] == "a"]
            most = chance.choice((0, 1, 2, 3, 4, 6, 999))
            told = None
            for chosen in [c for size in range(len(rules) + 1) for c in itertools.combinations(rules, size)]:
                if told is None and max(lengths(World(world.tables, chosen), column, condition)) <= most:
                    told = tuple(rule[0] for rule in chosen)
            self.assertEqual(claim_rules(world, "a", column, condition, most), told)
            sizes.add(told if told is None else len(told))
        self.assertEqual(sizes, {None, 0, 1, 2})
