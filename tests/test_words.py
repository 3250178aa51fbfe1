import unittest

from bookstogether.conditions import check_condition
from bookstogether.errors import InvalidText
from bookstogether.words import read_condition, write_condition, write_row

from tests.samples import ROWS, chances, deep, random_condition

TEXTS = {
    "always": ("always",),
    "equal 0 1": ("equal", 0, 1),
    "below 2 0": ("below", 2, 0),
    "unknown 1": ("unknown", 1),
    "quotient 0 1 2": ("quotient", 0, 1, 2),
    "not always": ("not", ("always",)),
    "and equal 0 1 not unknown 2": ("and", ("equal", 0, 1), ("not", ("unknown", 2))),
    "or and always below 0 1 quotient 1 1 0": (
        "or",
        ("and", ("always",), ("below", 0, 1)),
        ("quotient", 1, 1, 0),
    ),
}

WRONG = [
    "",
    " ",
    "never",
    "Always",
    "always ",
    " always",
    "always always",
    "always\n",
    "not  always",
    "not\talways",
    "not",
    "and always",
    "equal",
    "equal 0",
    "equal 0 3",
    "equal 3 0",
    "equal 0 01",
    "equal 00 1",
    "equal 0 ?",
    "equal ? 0",
    "equal 0 -1",
    "equal 0 +1",
    "equal 0 1.0",
    "equal 0 1 2",
    "equal 0 \u0661",
    "below 0 None",
    "unknown ?",
    "unknown 0 0",
    "quotient 0 1",
    "quotient 0 1 ?",
    "or always",
    "or 0 always",
]


class TestWords(unittest.TestCase):
    def test_write_row(self):
        self.assertEqual(write_row((0, None, 2)), "0 ? 2")
        self.assertEqual(write_row((None, None, None)), "? ? ?")
        self.assertEqual(len({write_row(row) for row in ROWS}), 64)

    def test_both_ways(self):
        for text, condition in TEXTS.items():
            self.assertEqual(write_condition(condition), text)
            self.assertEqual(read_condition(text), condition)

    def test_wrong_lines(self):
        for text in WRONG:
            with self.assertRaises(InvalidText, msg=repr(text)) as caught:
                read_condition(text)
            self.assertEqual(caught.exception.line, 1)

    def test_levels(self):
        self.assertEqual(read_condition(write_condition(deep(10))), deep(10))
        for condition in (deep(11), ("and", ("always",), deep(10)), ("or", deep(10), ("always",))):
            with self.assertRaises(InvalidText):
                read_condition(write_condition(condition))

    def test_reading_what_is_written(self):
        for chance in chances(100, "words"):
            condition = random_condition(chance, 10, quotients=True)
            check_condition(condition)
            self.assertEqual(read_condition(write_condition(condition)), condition)
