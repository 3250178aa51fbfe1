import unittest

from bookstogether.errors import UnknownTable
from bookstogether.evening import EvenSight, evened, uneven, wider
from bookstogether.sights import Sight
from bookstogether.stores import Store
from bookstogether.worlds import World

from tests.samples import ALWAYS, NEVER, ROWS, chances, plain_clash, plain_shown, random_condition, random_rules
from tests.samples import random_statement, random_world

# The groups of p in table `a` are the values of column 0, those of q in table `b` the values of column 1.
WORLD = World(("a", "b"), [("q", "b", 1, ALWAYS), ("p", "a", 0, ALWAYS)])
BARE = World(("a", "b"))
USERS = (0, 1, 2)


def shown_rows(sight, user, table):
    return [row for row in ROWS if sight(user, table, row)]


def searched_uneven(world, sight):
    for user in USERS:
        for rule in world.rules:
            shown = shown_rows(sight, user, rule[1])
            for row in shown:
                for other in ROWS:
                    if other not in shown and plain_clash(rule, row, other):
                        return (user, rule[0], row, other)
    return None


def searched_evened(world, sight, user, table):
    """The shown rows whose whole component, joined by clashes, is shown; found from the hidden rows on."""
    rules = [rule for rule in world.rules if rule[1] == table]
    lost = [row for row in ROWS if not sight(user, table, row)]
    for row in lost:
        # The list grows while it is gone through, as long as rows clash with a lost one.
        lost += [other for other in ROWS if other not in lost and any(plain_clash(rule, row, other) for rule in rules)]
    return [row for row in ROWS if row not in lost]


class TestUneven(unittest.TestCase):
    def test_even_sights(self):
        for sight in (
            Sight(),
            Sight((0, "a", ("equal", 0, 0)), (1, "b", ("not", ("below", 1, 2)))),
            Sight((0, "a", NEVER), (1, "a", NEVER), (2, "b", NEVER)),
            Sight((0, "a", ("unknown", 0))),
        ):
            self.assertIsNone(uneven(WORLD, sight))
        self.assertIsNone(uneven(BARE, Sight((0, "a", ("equal", 0, 0)))))

    def test_the_first_rows(self):
        sight = Sight((1, "a", ("not", ("equal", 1, 1))))
        # Where column 1 is unknown, the row is hidden, too.
        self.assertEqual(uneven(WORLD, sight), (1, "p", (0, 0, None), (0, None, None)))

    def test_users_come_before_rules_and_rules_stand_as_in_the_world(self):
        hiding = ("equal", 2, 1)
        self.assertEqual(uneven(WORLD, Sight((1, "b", hiding), (0, "a", hiding)))[:2], (0, "p"))
        self.assertEqual(uneven(WORLD, Sight((0, "a", hiding), (0, "b", hiding)))[:2], (0, "q"))
        self.assertEqual(uneven(WORLD, Sight((2, "b", hiding)))[:2], (2, "q"))

    def test_the_user_can_put_the_row(self):
        found = 0
        for chance in chances(40, "put"):
            world, sight = random_world(chance), Sight(*random_rules(chance))
            told = uneven(world, sight)
            if told is not None:
                found += 1
                user, name, row, other = told
                table = world.rule(name)[1]
                store = Store(world, sight)
                store.load(table, other)
                self.assertEqual(store.run(user, ("put", table, row)), ("put", row))
        self.assertGreater(found, 10)

    def test_against_a_plain_search(self):
        even = 0
        for chance in chances(50, "uneven"):
            world, sight = random_world(chance), Sight(*random_rules(chance))
            told = uneven(world, sight)
            even += told is None
            self.assertEqual(told, searched_uneven(world, sight))
        self.assertTrue(5 <= even <= 45, even)


class TestEvened(unittest.TestCase):
    def test_a_group_that_is_torn_is_left_out(self):
        sight = Sight((1, "a", ("or", ("not", ("equal", 0, 0)), ("unknown", 0))))
        expected = [row for row in ROWS if row[0] != 0]
        self.assertEqual(evened(WORLD, sight, 1, "a"), expected)
        sight = Sight((1, "a", ("or", ("unknown", 0), ("not", ("and", ("equal", 0, 0), ("equal", 1, 2))))))
        hidden = sight.hidden(1, "a")
        self.assertIn((0, 2, 1), hidden)
        self.assertNotIn((0, 1, 1), hidden)
        self.assertEqual([row for row in evened(WORLD, sight, 1, "a") if row[0] == 0], [])

    def test_users_tables_and_rules(self):
        sight = Sight((1, "a", ("equal", 2, 1)))
        self.assertEqual(evened(WORLD, sight, 0, "a"), ROWS)
        self.assertEqual(evened(WORLD, sight, 1, "b"), ROWS)
        self.assertEqual(evened(WORLD, sight, 1, "a"), [(None, value, 1) for value in (None, 0, 1, 2)])
        self.assertEqual(evened(BARE, sight, 1, "a"), [row for row in ROWS if row[2] == 1])
        self.assertEqual(evened(BARE, Sight((1, "a", NEVER)), 1, "a"), [])

    def test_clashes_go_on(self):
        # By p the rows with a 0 at 0 go with a hidden one, and by r those that share a value at 1 with them.
        world = World(("a", "b"), [("p", "a", 0, ALWAYS), ("r", "a", 1, ("equal", 0, 0))])
        sight = Sight((0, "a", ("not", ("and", ("equal", 0, 0), ("equal", 1, 2)))))
        kept = evened(world, sight, 0, "a")
        self.assertEqual(kept, searched_evened(world, sight, 0, "a"))
        self.assertEqual([row for row in kept if row[0] == 0], [])

    def test_unknown_tables(self):
        for table in ("c", ""):
            with self.assertRaises(UnknownTable) as caught:
                evened(WORLD, Sight(), 0, table)
            self.assertEqual(caught.exception.name, table)

    def test_against_a_plain_search(self):
        for chance in chances(60, "evened"):
            world, sight = random_world(chance), Sight(*random_rules(chance))
            user, table = chance.randrange(3), chance.choice("ab")
            self.assertEqual(evened(world, sight, user, table), searched_evened(world, sight, user, table))

    def test_it_contains_each_other_even_set(self):
        for chance in chances(40, "sets"):
            world, sight = random_world(chance), Sight(*random_rules(chance))
            user, table = chance.randrange(3), chance.choice("ab")
            kept = evened(world, sight, user, table)
            rules = world.rules_of(table)
            for _ in range(5):
                # The rows that a row is joined with make an even set.
                group = [chance.choice(ROWS)]
                for row in group:
                    near = [other for other in ROWS if any(plain_clash(rule, row, other) for rule in rules)]
                    group += [other for other in near if other not in group]
                if all(sight(user, table, row) for row in group):
                    self.assertLessEqual(set(group), set(kept))


class TestEvenSight(unittest.TestCase):
    def test_it_is_a_sight(self):
        sight = Sight((1, "a", ("equal", 2, 1)))
        even = EvenSight(WORLD, sight)
        self.assertIsInstance(even, Sight)
        self.assertEqual(even.rules, sight.rules)
        self.assertIs(even(1, "a", (None, 0, 1)), True)
        self.assertIs(even(1, "a", (0, 0, 1)), False)
        self.assertIs(even(0, "a", (0, 0, 1)), True)
        self.assertIs(even(3, "b", (0, 0, 1)), True)
        self.assertEqual(even.hidden(1, "a"), [row for row in ROWS if row[0] is not None or row[2] != 1])
        even.hidden(1, "a").clear()
        self.assertEqual(len(even.hidden(1, "a")), 60)

    def test_what_it_shows(self):
        for chance in chances(30, "even sights"):
            world, sight = random_world(chance), Sight(*random_rules(chance))
            even = EvenSight(world, sight)
            self.assertIsNone(uneven(world, even))
            self.assertIsNone(wider(world, even, sight))
            self.assertEqual(wider(world, sight, even) is None, uneven(world, sight) is None)
            for user in USERS:
                for table in world:
                    self.assertEqual(shown_rows(even, user, table), evened(world, sight, user, table))
            self.assertIsNone(wider(world, EvenSight(world, even), even))
            self.assertIsNone(wider(world, even, EvenSight(world, even)))

    def test_no_rows_of_a_store_ever_clash(self):
        for chance in chances(25, "stores"):
            world = random_world(chance)
            store = Store(world, EvenSight(world, Sight(*random_rules(chance))))
            for _ in range(40):
                store.run(chance.randrange(3), random_statement(chance, world))
            for rule in world.rules:
                rows = store.bag(rule[1])
                pairs = [(rows[at], rows[to]) for to in range(len(rows)) for at in range(to)]
                self.assertEqual([pair for pair in pairs if plain_clash(rule, *pair)], [])

    def test_deep_rules(self):
        deep = ("below", 0, 1)
        for at in range(5):
            deep = (("and", "or")[at % 2], deep, ("or", deep, ("equal", 1, 1)) if at == 4 else deep)
        world = World(("a", "b", "c"), [(name, "abc"[at // 2], at % 3, ALWAYS) for at, name in enumerate("pqrstu")])
        sight = Sight(*[(user, table, deep) for user in USERS for table in "ab"])
        self.assertIsNone(uneven(world, EvenSight(world, sight)))


class TestWider(unittest.TestCase):
    def test_the_first_one(self):
        hiding = Sight((2, "a", ("equal", 0, 0)), (1, "b", ("equal", 1, 1)), (1, "a", ("not", ("equal", 2, 2))))
        self.assertEqual(wider(WORLD, Sight(), hiding), (1, "a", (None, None, None)))
        self.assertIsNone(wider(WORLD, hiding, Sight()))
        self.assertIsNone(wider(WORLD, hiding, hiding))
        self.assertEqual(wider(World(("b", "a")), Sight(), hiding), (1, "b", (None, None, None)))

    def test_two_sights_that_both_hide(self):
        first, second = Sight((0, "a", ("below", 0, 2))), Sight((0, "a", ("equal", 0, 1)))
        self.assertEqual(wider(WORLD, first, second), (0, "a", (0, None, None)))
        self.assertIsNone(wider(WORLD, second, first))

    def test_against_a_plain_search(self):
        for chance in chances(30, "wider"):
            rules, part = random_rules(chance), random_condition(chance, 2)
            narrow = [(user, table, ("and", condition, part)) for user, table, condition in rules]
            pair = [rules, chance.choice((narrow, random_rules(chance)))]
            if chance.randrange(2):
                pair.reverse()
            told = []
            for user in USERS:
                for table in ("a", "b"):
                    for row in ROWS:
                        if [plain_shown(own, user, table, row) for own in pair] == [True, False]:
                            told.append((user, table, row))
            self.assertEqual(wider(WORLD, Sight(*pair[0]), Sight(*pair[1])), told[0] if told else None)
