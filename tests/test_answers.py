import unittest

from bookstogether.answers import answer, upserted

from tests.samples import ALWAYS

FOUND = [(1, None, 2), (0, None, 1), (None, None, 2), (0, None, 1)]


class TestAnswers(unittest.TestCase):
    def test_rows(self):
        told = answer(("rows", "a", ALWAYS, ""), FOUND)
        self.assertEqual(told, ("rows", ((None, None, 2), (0, None, 1), (0, None, 1), (1, None, 2))))
        self.assertEqual(answer(("rows", "a", ALWAYS, "x"), []), ("rows", ()))

    def test_count(self):
        self.assertEqual(answer(("count", "a", ALWAYS, ""), FOUND), ("count", 4))
        self.assertEqual(answer(("count", "a", ALWAYS, ""), []), ("count", 0))

    def test_sum(self):
        told = [answer(("sum", "a", ALWAYS, column, ""), FOUND) for column in (0, 1, 2)]
        self.assertEqual(told, [("sum", 1), ("sum", 0), ("sum", 6)])
        self.assertEqual(answer(("sum", "a", ALWAYS, 0, ""), []), ("sum", 0))

    def test_greatest(self):
        told = [answer(("greatest", "a", ALWAYS, column, ""), FOUND) for column in (0, 1, 2)]
        self.assertEqual(told, [("greatest", 1), ("greatest", None), ("greatest", 2)])
        self.assertEqual(answer(("greatest", "a", ALWAYS, 0, ""), []), ("greatest", None))
        self.assertEqual(answer(("greatest", "a", ALWAYS, 0, ""), [(0, 1, 1)]), ("greatest", 0))

    def test_the_list_is_left_alone(self):
        found = list(FOUND)
        answer(("rows", "a", ALWAYS, ""), found)
        self.assertEqual(found, FOUND)


class TestUpserted(unittest.TestCase):
    def test_sets(self):
        row, asked = (0, 1, 2), (2, None, 0)
        self.assertEqual(upserted(row, asked, ()), row)
        self.assertEqual(upserted(row, asked, ((0, "new"),)), (2, 1, 2))
        self.assertEqual(upserted(row, asked, ((1, "new"), (2, 1))), (0, None, 1))
        self.assertEqual(upserted(row, asked, ((2, None), (0, 0), (1, 2))), (0, 2, None))
        self.assertEqual((row, asked), ((0, 1, 2), (2, None, 0)))
