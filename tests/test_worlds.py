import unittest

from bookstogether.errors import InvalidCondition, InvalidName, InvalidWorld, UnknownRule, UnknownTable
from bookstogether.worlds import World, clash, first_clash, group

from tests.samples import ALWAYS, NEVER, ROWS, WORLD, chances, deep, plain_clash, plain_group, random_condition

P = ("p", "a", 0, ALWAYS)
Q = ("q", "a", 1, ("equal", 2, 1))


class TestWorld(unittest.TestCase):
    def test_fields(self):
        self.assertEqual((World.TABLES, World.RULES), (3, 2))
        world = World(["a", "b"], [P, Q])
        self.assertEqual(world.tables, ("a", "b"))
        self.assertEqual(world.rules, (P, Q))
        self.assertEqual(World(("a", "b", "c")).rules, ())

    def test_lists_are_copied(self):
        tables, rules = ["a", "b"], [P]
        world = World(tables, rules)
        tables.append("c")
        rules.clear()
        self.assertEqual((world.tables, world.rules), (("a", "b"), (P,)))

    def test_len_in_and_iteration(self):
        world = World(("b", "a", "c"))
        self.assertEqual(len(world), 3)
        self.assertEqual(list(world), ["b", "a", "c"])
        self.assertIn("a", world)
        self.assertNotIn("d", world)

    def test_rules(self):
        self.assertEqual([rule[0] for rule in WORLD.rules_of("a")], ["p", "q"])
        self.assertEqual([rule[0] for rule in WORLD.rules_of("b")], ["r"])
        self.assertIsInstance(WORLD.rules_of("a"), tuple)
        self.assertEqual(World(("a", "b")).rules_of("b"), ())
        self.assertEqual(WORLD.rule("q")[1], "a")
        with self.assertRaises(UnknownTable) as caught:
            WORLD.rules_of("x")
        self.assertEqual(caught.exception.name, "x")
        with self.assertRaises(UnknownRule) as caught:
            WORLD.rule("a")
        self.assertEqual(caught.exception.name, "a")

    def test_a_rule_may_have_the_name_of_a_table(self):
        World(("a", "b"), [("a", "b", 0, ALWAYS)])

    def refused(self, error, tables, rules=()):
        with self.assertRaises(error) as caught:
            World(tables, rules)
        self.assertIs(type(caught.exception), error)
        return caught.exception

    def test_number_of_tables_comes_first(self):
        for tables in ((), ("a",), ("a", "b", "c", "d"), ("A",), ("A", "A", "A", "A")):
            self.refused(InvalidWorld, tables, [("P", "x", 5, ())])

    def test_names_of_tables(self):
        self.assertEqual(self.refused(InvalidName, ("a", "set")).name, "set")
        self.assertEqual(self.refused(InvalidName, ("a", "abcdefghi", "a")).name, "abcdefghi")
        self.refused(InvalidWorld, ("a", "a", "B"))
        self.assertEqual(self.refused(InvalidName, ("B", "a", "a")).name, "B")
        self.refused(InvalidWorld, ("a", "b", "a"), [("P", "x", 5, ())])

    def test_errors_of_rules_in_their_order(self):
        tables = ("a", "b")
        error = self.refused(InvalidName, tables, [P, ("new", "x", 5, ())])
        self.assertEqual(error.name, "new")
        self.refused(InvalidWorld, tables, [P, ("p", "x", 5, ())])
        error = self.refused(UnknownTable, tables, [P, ("q", "x", 5, ())])
        self.assertEqual(error.name, "x")
        self.refused(InvalidWorld, tables, [P, ("q", "a", 3, ())])
        self.refused(InvalidWorld, tables, [P, ("q", "a", None, ())])
        self.refused(InvalidCondition, tables, [P, Q, ("s", "a", 0, ())])
        self.refused(InvalidWorld, tables, [P, Q, ("s", "a", 0, ALWAYS)])
        self.refused(InvalidWorld, tables, [P, Q, ("s", "a", 0, ALWAYS), ("on", "b", 0, ALWAYS)])

    def test_an_earlier_rule_comes_before_a_later_one(self):
        error = self.refused(UnknownTable, ("a", "b"), [("p", "x", 0, ALWAYS), ("on", "a", 0, ALWAYS)])
        self.assertEqual(error.name, "x")

    def test_conditions_of_rules(self):
        World(("a", "b"), [("p", "a", 0, deep(6))])
        self.refused(InvalidCondition, ("a", "b"), [("p", "a", 0, deep(7))])
        self.refused(InvalidCondition, ("a", "b"), [("p", "a", 0, ("not", ("quotient", 0, 1, 2)))])
        self.refused(InvalidCondition, ("a", "b"), [("p", "a", 0, ("equal", 0, None))])

    def test_two_rules_for_each_table(self):
        rules = [(f"{table}{at}", table, 0, ALWAYS) for table in "abc" for at in "pq"]
        self.assertEqual(len(World(tuple("abc"), rules).rules), 6)


class TestGroups(unittest.TestCase):
    def test_group(self):
        self.assertEqual(group(Q, (0, 2, 1)), 2)
        self.assertEqual(group(Q, (0, 0, 1)), 0)
        self.assertIsNone(group(Q, (0, None, 1)))
        self.assertIsNone(group(Q, (0, 2, 0)))
        self.assertIsNone(group(Q, (0, 2, None)))

    def test_clash(self):
        self.assertIs(clash(Q, (0, 2, 1), (1, 2, 1)), True)
        self.assertIs(clash(Q, (0, 2, 1), (0, 2, 1)), True)
        self.assertIs(clash(Q, (0, 2, 1), (0, 1, 1)), False)
        self.assertIs(clash(Q, (0, 2, 1), (0, 2, 0)), False)
        self.assertIs(clash(Q, (0, 2, 0), (0, 2, 0)), False)
        self.assertIs(clash(Q, (0, None, 1), (0, None, 1)), False)

    def test_first_clash(self):
        rules = (P, Q)
        self.assertEqual(first_clash(rules, (0, 2, 1), []), "")
        self.assertEqual(first_clash(rules, (0, 2, 1), [(1, 2, 1), (0, 0, 0)]), "p")
        self.assertEqual(first_clash((Q, P), (0, 2, 1), [(0, 0, 0), (1, 2, 1)]), "q")
        self.assertEqual(first_clash(rules, (0, 2, 1), [(1, 2, 1)]), "q")
        self.assertEqual(first_clash(rules, (0, 2, 1), [(1, 1, 1)]), "")
        self.assertEqual(first_clash((), (0, 2, 1), [(0, 2, 1)]), "")
        self.assertEqual(first_clash([("n", "a", 0, NEVER)], (0, 0, 0), [(0, 0, 0)]), "")

    def test_against_a_second_telling(self):
        for chance in chances(60, "groups"):
            rule = ("p", "a", chance.randrange(3), random_condition(chance, 3))
            row, other = chance.choice(ROWS), chance.choice(ROWS)
            self.assertEqual(group(rule, row), plain_group(rule, row))
            self.assertIs(clash(rule, row, other), plain_clash(rule, row, other))
