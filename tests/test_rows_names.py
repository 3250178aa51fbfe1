import unittest

from bookstogether import rows
from bookstogether.errors import InvalidName, InvalidRow
from bookstogether.names import check_name, is_name


class TestRows(unittest.TestCase):
    def test_constants(self):
        self.assertEqual(rows.VALUES, (None, 0, 1, 2))
        self.assertEqual(rows.FREE, (None, None, None))

    def test_all_rows_ascending_also_at_a_second_call(self):
        expected = [(a, b, c) for a in (None, 0, 1, 2) for b in (None, 0, 1, 2) for c in (None, 0, 1, 2)]
        self.assertEqual(len(expected), 64)
        self.assertEqual(list(rows.all_rows()), expected)
        self.assertEqual(list(rows.all_rows()), expected)

    def test_all_rows_can_be_left_early(self):
        for row in rows.all_rows():
            self.assertEqual(row, rows.FREE)
            break
        self.assertEqual(len(list(rows.all_rows())), 64)

    def test_check_row(self):
        for row in rows.all_rows():
            self.assertIsNone(rows.check_row(row))
        wrong = [(), (0,), (0, 1), (0, 1, 2, 0), (0, 1, 3), (-1, 0, 0), (None, None, 3), ("0", 0, 0), ((), 0, 0)]
        wrong += [[0, 1, 2], None]
        for row in wrong:
            with self.assertRaises(InvalidRow):
                rows.check_row(row)

    def test_row_key(self):
        self.assertEqual(rows.row_key((None, 0, 2)), (-1, 0, 2))
        self.assertEqual(rows.row_key(rows.FREE), (-1, -1, -1))

    def test_sorted_rows(self):
        given = [(1, 0, 0), (0, 2, 2), (0, None, 2), (None, 2, 2), (0, None, 2), (0, 0, None)]
        kept = list(given)
        expected = [(None, 2, 2), (0, None, 2), (0, None, 2), (0, 0, None), (0, 2, 2), (1, 0, 0)]
        self.assertEqual(rows.sorted_rows(given), expected)
        self.assertEqual(given, kept)
        self.assertEqual(rows.sorted_rows(list(rows.all_rows())[::-1]), list(rows.all_rows()))
        self.assertEqual(rows.sorted_rows([]), [])

    def test_altered(self):
        row = (0, None, 2)
        self.assertEqual(rows.altered(row, 0, 1), (1, None, 2))
        self.assertEqual(rows.altered(row, 1, 1), (0, 1, 2))
        self.assertEqual(rows.altered(row, 2, None), (0, None, None))
        self.assertEqual(row, (0, None, 2))


class TestNames(unittest.TestCase):
    def test_names(self):
        for name in ("a", "z", "abcdefgh", "one", "sets", "news", "o", "rule", "table"):
            self.assertIs(is_name(name), True, name)
            self.assertIsNone(check_name(name))

    def test_no_names(self):
        for name in ("", "abcdefghi", "on", "set", "new", "A", "aB", "a1", "a b", " a", "a\n", "a-", "-", "?",
                     "\u00e4"):
            self.assertIs(is_name(name), False, name)
            with self.assertRaises(InvalidName) as caught:
                check_name(name)
            self.assertEqual(caught.exception.name, name)
