import unittest

from bookstogether.arbiters import arbiter_bounds, arbiter_gap

from tests.samples import ALWAYS, NEVER, ROWS, chances, plain_clash, plain_group, plain_truth, random_condition


def searched_gap(rule, column, held, again):
    """The first gap for an index that holds the rows for which `held` is true."""
    for first in ROWS:
        for second in ROWS:
            clashes = plain_clash(rule, first, second)
            found = plain_group(rule, first) is not None and held(second)
            found = found and first[column] is not None and first[column] == second[column]
            if again:
                found = found and clashes
            if found != clashes:
                return (first, second)
    return None


def random_rule(chance):
    return ("p", "a", chance.randrange(3), random_condition(chance, 3))


class TestGap(unittest.TestCase):
    def test_the_index_of_the_rule_has_none(self):
        rule = ("p", "a", 1, ("equal", 0, 0))
        for again in (True, False):
            self.assertIsNone(arbiter_gap(rule, 1, ("equal", 0, 0), again))

    def test_a_row_too_few(self):
        rule = ("p", "a", 1, ALWAYS)
        for again in (True, False):
            gap = arbiter_gap(rule, 1, ("not", ("equal", 0, 0)), again)
            self.assertEqual(gap, ((None, 0, None), (None, 0, None)))
            gap = arbiter_gap(rule, 1, ("or", ("unknown", 0), ("not", ("equal", 0, 0))), again)
            self.assertEqual(gap, ((None, 0, None), (0, 0, None)))

    def test_a_row_too_many(self):
        rule = ("p", "a", 1, ("equal", 0, 0))
        self.assertIsNone(arbiter_gap(rule, 1, ALWAYS, True))
        self.assertEqual(arbiter_gap(rule, 1, ALWAYS, False), ((0, 0, None), (None, 0, None)))

    def test_another_column(self):
        self.assertEqual(arbiter_gap(("p", "a", 1, ALWAYS), 0, ALWAYS, True), ((None, 0, None), (None, 0, None)))

    def test_a_rule_without_groups(self):
        for again in (True, False):
            self.assertIsNone(arbiter_gap(("p", "a", 1, NEVER), 0, ALWAYS, again))

    def test_against_a_plain_search(self):
        for chance in chances(40, "gaps"):
            rule, condition = random_rule(chance), random_condition(chance, 3)
            column = chance.choice((rule[2], rule[2], chance.randrange(3)))
            if chance.randrange(2):
                condition = ("or", rule[3], condition)
            for again in (True, False):
                expected = searched_gap(rule, column, lambda row: plain_truth(condition, row) == 2, again)
                self.assertEqual(arbiter_gap(rule, column, condition, again), expected)


class TestBounds(unittest.TestCase):
    def test_with_again(self):
        rule = ("p", "a", 1, ("equal", 0, 0))
        must = [row for row in ROWS if row[0] == 0 and row[1] is not None]
        self.assertEqual(arbiter_bounds(rule, 1, True), (must, ROWS))

    def test_without_again(self):
        rule = ("p", "a", 1, ("equal", 0, 0))
        must, may = arbiter_bounds(rule, 1, False)
        self.assertEqual(must, [row for row in ROWS if row[0] == 0 and row[1] is not None])
        self.assertEqual(may, [row for row in ROWS if row[0] == 0 or row[1] is None])

    def test_no_condition_will_do(self):
        for again in (True, False):
            self.assertIsNone(arbiter_bounds(("p", "a", 1, ALWAYS), 0, again))

    def test_a_rule_without_groups(self):
        for again in (True, False):
            self.assertEqual(arbiter_bounds(("p", "a", 1, NEVER), 0, again), ([], ROWS))

    def test_another_column_of_a_rule_for_one_value(self):
        # The groups of column 1 are those of column 0 here, as far as there are any.
        rule = ("p", "a", 1, ("and", ("equal", 0, 2), ("equal", 1, 1)))
        must = [(2, 1, None), (2, 1, 0), (2, 1, 1), (2, 1, 2)]
        self.assertEqual(arbiter_bounds(rule, 0, True), (must, ROWS))
        self.assertEqual(arbiter_bounds(rule, 0, False), (must, [row for row in ROWS if row[0] != 2 or row in must]))

    def test_against_gaps_of_sets_of_rows(self):
        for chance in chances(30, "bounds"):
            rule = random_rule(chance)
            column = chance.choice((rule[2], chance.randrange(3)))
            for again in (True, False):
                bounds = arbiter_bounds(rule, column, again)
                if bounds is None:
                    self.no_way_out(chance, rule, column, again)
                else:
                    self.within(chance, rule, column, again, *bounds)

    def within(self, chance, rule, column, again, must, may):
        self.assertEqual((must, may), ([r for r in ROWS if r in must], [r for r in ROWS if r in may]))
        right = [must, may, must + [row for row in may if row not in must and chance.randrange(2)]]
        for rows in right:
            self.assertIsNone(searched_gap(rule, column, lambda row: row in rows, again))
        wrong = [[other for other in may if other != row] for row in must[:2]]
        wrong += [must + [row] for row in ROWS if row not in may][:2]
        for rows in wrong:
            self.assertIsNotNone(searched_gap(rule, column, lambda row: row in rows, again))

    def no_way_out(self, chance, rule, column, again):
        own = [row for row in ROWS if plain_group(rule, row) is not None]
        for rows in (own, ROWS, [], [row for row in ROWS if chance.randrange(2)]):
            self.assertIsNotNone(searched_gap(rule, column, lambda row: row in rows, again))
