import itertools
import unittest

from bookstogether.packing import fullest, guard, most_looks, row_groups
from bookstogether.worlds import World

from tests.samples import ALWAYS, NEVER, ROWS, WORLD, chances, plain_group, random_condition, random_row

# Under p the groups are the values of column 0, under q those of column 1.
PAIRED = World(("a", "b"), [("p", "a", 0, ALWAYS), ("q", "a", 1, ALWAYS)])
FREE = (None, None, 2)


def plain_groups(world, table, row):
    pairs = [(rule[0], plain_group(rule, row)) for rule in world.rules if rule[1] == table]
    return {pair for pair in pairs if pair[1] is not None}


def stand_together(world, table, rows):
    groups = [plain_groups(world, table, row) for row in rows]
    return all(not one & two for one, two in itertools.combinations(groups, 2))


def searched_most(world, table, rows, size):
    """The greatest number of the rows, each taken once, that may stand together; a free row fills the list."""
    groups = [plain_groups(world, table, row) for row in rows]
    if set() in groups:
        return size

    def longest(at, used):
        if at == len(groups):
            return 0
        best = longest(at + 1, used)
        return best if groups[at] & used else max(best, 1 + longest(at + 1, used | groups[at]))

    return min(size, longest(0, set()))


def random_packed_world(chance):
    conditions = [chance.choice((ALWAYS, random_condition(chance, 3))) for _ in range(2)]
    rules = [("pq"[at], "a", chance.randrange(3), conditions[at]) for at in range(chance.randrange(1, 3))]
    return World(("a", "b"), [("r", "b", 0, ALWAYS)] + rules[::-1])


class TestRowGroups(unittest.TestCase):
    def test_pairs(self):
        self.assertEqual(row_groups(WORLD, "a", (2, 0, 1)), (("p", 2), ("q", 0)))
        self.assertEqual(row_groups(WORLD, "a", (2, 0, 0)), (("p", 2),))
        self.assertEqual(row_groups(WORLD, "a", (None, 0, 1)), (("q", 0),))
        self.assertEqual(row_groups(WORLD, "a", (None, 0, 0)), ())
        self.assertEqual(row_groups(WORLD, "b", (0, 0, 0)), (("r", 0),))

    def test_the_order_of_the_rules(self):
        world = World(("a", "b"), PAIRED.rules[::-1])
        self.assertEqual(row_groups(world, "a", (0, 1, 0)), (("q", 1), ("p", 0)))

    def test_every_row(self):
        for chance in chances(10, "groups"):
            world = random_packed_world(chance)
            for row in ROWS:
                self.assertEqual(set(row_groups(world, "a", row)), plain_groups(world, "a", row))


class TestFullest(unittest.TestCase):
    def full(self, world, rows, size):
        """The list, after what can be told of every one."""
        copied = list(rows)
        told = fullest(world, "a", rows, size=size)
        self.assertEqual(rows, copied)
        self.assertEqual(told, [row for row in ROWS for _ in range(told.count(row))])
        self.assertTrue(set(told) <= set(rows))
        self.assertTrue(stand_together(world, "a", told))
        self.assertEqual(most_looks(world, "a", rows, size=size), len(told))
        return told

    def test_no_rows(self):
        for size in (0, 1, 1000):
            self.assertEqual(self.full(PAIRED, [], size), [])

    def test_sizes(self):
        rows = [(0, 0, 0), (1, 1, 0), (2, 2, 0), (0, 1, 0)]
        self.assertEqual(self.full(PAIRED, rows, 0), [])
        self.assertEqual(len(self.full(PAIRED, rows, 1)), 1)
        self.assertEqual(len(self.full(PAIRED, rows, 2)), 2)
        for size in (3, 4, 1000):
            self.assertEqual(self.full(PAIRED, rows, size), [(0, 0, 0), (1, 1, 0), (2, 2, 0)])

    def test_a_row_that_is_not_free_stands_once(self):
        self.assertEqual(self.full(PAIRED, [(0, 0, 0), (0, 0, 0)], 1000), [(0, 0, 0)])

    def test_free_rows(self):
        self.assertEqual(self.full(PAIRED, [FREE], 0), [])
        self.assertEqual(self.full(PAIRED, [FREE], 3), [FREE] * 3)
        self.assertEqual(len(self.full(PAIRED, [(0, 0, 0), FREE, (None, None, 0)], 1000)), 1000)
        self.assertEqual(len(self.full(PAIRED, ROWS, 1000)), 1000)
        self.assertEqual(len(self.full(World(("a", "b")), [(0, 0, 0)], 7)), 7)

    def test_a_row_that_is_in_the_way_of_two(self):
        # The first row alone takes what the other two need.
        rows = [(0, 0, 0), (0, None, 0), (None, 0, 0)]
        self.assertEqual(self.full(PAIRED, rows, 1000), [(None, 0, 0), (0, None, 0)])
        rows = [(0, 0, None), (0, 1, None), (1, 0, None)]
        self.assertEqual(self.full(PAIRED, rows, 1000), [(0, 1, None), (1, 0, None)])

    def test_at_most_six(self):
        rows = [row for row in ROWS if row[:2] != (None, None)]
        told = self.full(PAIRED, rows, 1000)
        self.assertEqual(len(told), 6)

    def test_against_a_plain_search(self):
        lengths = set()
        for chance in chances(120, "fullest"):
            world = random_packed_world(chance)
            rows = [random_row(chance) for _ in range(chance.randrange(12))]
            if chance.randrange(3):
                rows = [row for row in rows if plain_groups(world, "a", row)]
            size = chance.choice((0, 1, 2, 3, 5, 9, 1000))
            told = self.full(world, rows, size)
            self.assertEqual(len(told), searched_most(world, "a", rows, size))
            lengths.add(len(told))
        self.assertLessEqual({0, 1, 2, 3, 4, 5, 1000}, lengths)

    def test_size_is_passed_by_keyword(self):
        for function in (fullest, most_looks):
            with self.assertRaises(TypeError):
                function(PAIRED, "a", [], 3)


class TestGuard(unittest.TestCase):
    def test_the_example_of_the_document(self):
        rows = [(0, 0, None), (0, 1, None), (1, 0, None)]
        told = guard(PAIRED, "a", rows)
        self.assertEqual(len(told), 2)
        self.check(PAIRED, rows, told)

    def check(self, world, rows, told):
        """The guard is one, and in order."""
        self.assertIsInstance(told, tuple)
        order = [(rule[0], value) for rule in world.rules_of("a") for value in (0, 1, 2)]
        self.assertEqual(list(told), [pair for pair in order if pair in told])
        for row in rows:
            self.assertTrue(set(told) & plain_groups(world, "a", row))

    def test_no_rows(self):
        self.assertEqual(guard(PAIRED, "a", []), ())
        self.assertEqual(guard(World(("a", "b")), "a", []), ())

    def test_free_rows(self):
        self.assertIsNone(guard(PAIRED, "a", [(0, 0, 0), FREE]))
        self.assertIsNone(guard(PAIRED, "a", ROWS))
        self.assertIsNone(guard(World(("a", "b")), "a", [(0, 0, 0)]))
        self.assertIsNone(guard(World(("a", "b"), [("p", "a", 0, NEVER)]), "a", [(0, 0, 0)]))

    def test_all_pairs(self):
        rows = [row for row in ROWS if row[:2] != (None, None)]
        self.assertEqual(guard(PAIRED, "a", rows), tuple((name, value) for name in "pq" for value in (0, 1, 2)))

    def test_the_rules_of_the_other_table(self):
        world = World(("b", "a"), [("r", "b", 0, ALWAYS), ("p", "a", 0, ALWAYS)])
        self.assertEqual(guard(world, "a", [(2, 0, 0), (0, 0, 0)]), (("p", 0), ("p", 2)))
        self.assertEqual(guard(world, "b", [(1, 0, 0)]), (("r", 1),))

    def test_it_is_as_long_as_the_fullest_list(self):
        lengths = set()
        for chance in chances(120, "guard"):
            world = random_packed_world(chance)
            rows = [random_row(chance) for _ in range(chance.randrange(12))]
            if chance.randrange(4):
                rows = [row for row in rows if plain_groups(world, "a", row)]
            told = guard(world, "a", rows)
            if any(not plain_groups(world, "a", row) for row in rows):
                self.assertIsNone(told)
                lengths.add(None)
                continue
            self.check(world, rows, told)
            self.assertEqual(len(told), searched_most(world, "a", rows, 1000))
            lengths.add(len(told))
        self.assertLessEqual({None, 0, 1, 2, 3, 4}, lengths)
