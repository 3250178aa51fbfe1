import unittest

from bookstogether.rows import all_rows
from bookstogether.sights import Sight

from tests.samples import ALWAYS, NEVER, ROWS, chances, plain_truth, random_condition


class TestSight(unittest.TestCase):
    def test_a_sight_without_rules_shows_everything(self):
        sight = Sight()
        self.assertEqual(sight.rules, ())
        self.assertIs(sight(0, "a", (0, 0, 0)), True)
        self.assertEqual(sight.hidden(0, "a"), [])

    def test_only_true_shows(self):
        sight = Sight((1, "a", ("below", 0, 1)))
        self.assertEqual(sight.rules, ((1, "a", ("below", 0, 1)),))
        self.assertIs(sight(1, "a", (0, 2, 2)), True)
        self.assertIs(sight(1, "a", (1, 2, 2)), False)
        self.assertIs(sight(1, "a", (None, 2, 2)), False)

    def test_other_users_and_tables(self):
        sight = Sight((1, "a", NEVER))
        self.assertIs(sight(0, "a", (0, 0, 0)), True)
        self.assertIs(sight(1, "b", (0, 0, 0)), True)
        self.assertIs(sight(1, "a", (0, 0, 0)), False)

    def test_all_rules_of_a_user_and_table_count(self):
        sight = Sight((1, "a", ALWAYS), (1, "a", ("equal", 0, 0)), (2, "a", NEVER), (1, "a", ("equal", 1, 0)))
        self.assertIs(sight(1, "a", (0, 0, 2)), True)
        self.assertIs(sight(1, "a", (0, 1, 2)), False)
        self.assertIs(sight(1, "a", (1, 0, 2)), False)

    def test_hidden(self):
        sight = Sight((0, "a", ("not", ("equal", 2, 2))))
        expected = [row for row in ROWS if row[2] in (None, 2)]
        self.assertEqual(sight.hidden(0, "a"), expected)
        self.assertEqual(Sight((0, "a", NEVER)).hidden(0, "a"), list(all_rows()))

    def test_returned_lists_are_new(self):
        sight = Sight((0, "a", NEVER))
        sight.hidden(0, "a").clear()
        self.assertEqual(len(sight.hidden(0, "a")), 64)

    def test_rules_are_not_checked(self):
        self.assertEqual(len(Sight((7, "NO", ("strange",))).rules), 1)

    def test_against_a_second_telling(self):
        for chance in chances(30, "sights"):
            rules = [(chance.randrange(2), "a", random_condition(chance, 3)) for _ in range(3)]
            sight = Sight(*rules)
            for row in ROWS:
                shown = all(plain_truth(rule[2], row) == 2 for rule in rules if rule[0] == 1)
                self.assertIs(sight(1, "a", row), shown)
