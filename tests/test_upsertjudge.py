import unittest

from bookstogether.upsertbooks import UpsertBook
from bookstogether.upsertjudge import judge_upserts
from bookstogether.worlds import World

from tests.samples import ALWAYS, NEVER, ROWS, WORLD, chances, plain_group, random_world

ASKED = UpsertBook(tells="asked")


class TestJudgeUpserts(unittest.TestCase):
    def test_after_is_right(self):
        self.assertEqual(judge_upserts(WORLD, UpsertBook()), ())
        self.assertEqual(judge_upserts(WORLD, UpsertBook(("p", "i"), again=False, sees="all")), ())

    def test_asked(self):
        self.assertEqual(judge_upserts(WORLD, ASKED), (("asked", "p", (0, None, None)),))

    def test_a_rule_without_groups_is_passed_over(self):
        world = World(("a", "b"), [("p", "a", 0, NEVER), ("q", "b", 2, ("equal", 0, 1)), ("r", "a", 0, ALWAYS)])
        self.assertEqual(judge_upserts(world, ASKED), (("asked", "q", (1, None, 0)),))

    def test_no_groups_at_all(self):
        self.assertEqual(judge_upserts(World(("a", "b")), ASKED), ())
        self.assertEqual(judge_upserts(World(("a", "b"), [("p", "a", 0, ("unknown", 0))]), ASKED), ())

    def test_against_a_plain_search(self):
        for chance in chances(40, "judge"):
            world = random_world(chance)
            found = [(rule[0], row) for rule in world.rules for row in ROWS if plain_group(rule, row) is not None]
            self.assertEqual(judge_upserts(world, ASKED), (("asked", *found[0]),) if found else ())
