"""The words of a line, and the texts of rows and conditions."""

from bookstogether.conditions import PARTS
from bookstogether.errors import InvalidText
from bookstogether.names import is_name

DIGITS = ("0", "1", "2")
UNKNOWN = "?"
MISSING = "-"


class LineReader:
    """The words of a line, taken one behind another; what does not have the form raises InvalidText."""

    def __init__(self, line, text):
        self.line = line
        # A blank too many gives an empty word, and no form has an empty word.
        self.words = text.split(" ")
        self.at = 0

    def comes(self, text):
        """Tell whether this is the next word."""
        return not self.is_done() and self.words[self.at] == text

    def take(self):
        """Take the next word, whatever it is."""
        if self.is_done():
            raise InvalidText(self.line)
        self.at += 1
        return self.words[self.at - 1]

    def take_one_of(self, words):
        """Take the next word, which must be one of these."""
        text = self.take()
        if text not in words:
            raise InvalidText(self.line)
        return text

    def take_name(self):
        """Take a name."""
        text = self.take()
        if not is_name(text):
            raise InvalidText(self.line)
        return text

    def take_name_or_missing(self):
        """Take a name, or the sign for a missing one, which gives the empty string."""
        if self.comes(MISSING):
            self.take()
            return ""
        return self.take_name()

    def take_number(self):
        """Take a column, a user or a known value."""
        return int(self.take_one_of(DIGITS))

    def take_value(self):
        """Take a value."""
        if self.comes(UNKNOWN):
            self.take()
            return None
        return self.take_number()

    def take_row(self):
        """Take the values of a row."""
        first = self.take_value()
        second = self.take_value()
        third = self.take_value()
        return (first, second, third)

    def take_condition(self, levels=10):
        """Take a condition of at most so many levels."""
        text = self.take()
        if levels < 1 or text not in PARTS:
            raise InvalidText(self.line)
        parts = []
        for kind in PARTS[text]:
            parts.append(self.take_condition(levels - 1) if kind == "condition" else self.take_number())
        return (text, *parts)

    def is_done(self):
        """Tell whether no word is left."""
        return self.at == len(self.words)

    def end(self):
        """Make sure that no word is left."""
        if not self.is_done():
            raise InvalidText(self.line)


def write_value(value):
    """Return the word of a value, or of the source `new`, which is a word already."""
    return UNKNOWN if value is None else str(value)


def write_row(row):
    """Return the words of a row."""
    return " ".join([write_value(value) for value in row])


def write_condition(condition):
    """Return the words of a condition."""
    return " ".join([write_condition(part) if isinstance(part, tuple) else str(part) for part in condition])


def read_condition(text):
    """Return the condition that is written in a line."""
    reader = LineReader(1, text)
    condition = reader.take_condition()
    reader.end()
    return condition
