"""What all books share: the words of their options, and the line that writes them."""

from bookstogether.errors import InvalidBook, InvalidText
from bookstogether.words import LineReader

YES_NO = ("yes", "no")


def check_option(part, word, words):
    """Raise InvalidBook if an option of a part's book has none of its words."""
    if word not in words:
        raise InvalidBook(part)


def yes_or_no(chosen):
    """Return the word of an option that is True or False."""
    return "yes" if chosen else "no"


def write_options(part, options):
    """Return the first line of a part's book, for pairs of an option and its word."""
    return " ".join([part] + [f"{name} {word}" for name, word in options])


def read_first(part, lines):
    """Return a reader of the first line of a part's book, behind the word of the part."""
    if len(lines) == 0:
        raise InvalidText(0)
    line, text = lines[0]
    reader = LineReader(line, text)
    reader.take_one_of((part,))
    return reader


def take_option(reader, name, words):
    """Take an option that has one of these words."""
    reader.take_one_of((name,))
    return reader.take_one_of(words)


def end_only_line(reader, lines):
    """Make sure that a line is over and that no other one follows, for a part whose books have one line."""
    reader.end()
    if len(lines) > 1:
        raise InvalidText(lines[1][0])


def read_options(part, options, lines):
    """Return the words that the first line of a part's book chooses, for pairs of an option and its words."""
    reader = read_first(part, lines)
    chosen = [take_option(reader, name, words) for name, words in options]
    reader.end()
    return chosen


def read_only_line(part, options, lines):
    """Return the words that the one line of a part's book chooses, for a part whose books have one line."""
    reader = read_first(part, lines)
    chosen = [take_option(reader, name, words) for name, words in options]
    end_only_line(reader, lines)
    return chosen
