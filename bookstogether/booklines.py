"""What all books share: the words of their options, and the line that writes them."""

from bookstogether.errors import InvalidBook, InvalidText
from bookstogether.words import LineReader

YES_NO = ("yes", "no")


def check_option(part, word, words):
    """Raise InvalidBook if an option of a part's book has none of its words."""
    if word not in words:
        raise InvalidBook(part)


def yes_or_no(chosen):
    """Return the word of an option that is True or False."""
    return "yes" if chosen else "no"


def write_options(part, options):
    """Return the first line of a part's book, for pairs of an option and its word."""
    return " ".join([part] + [f"{name} {word}" for name, word in options])


def read_options(part, options, lines):
    """Return the words that the first line of a part's book chooses, for pairs of an option and its words."""
    if len(lines) == 0:
        raise InvalidText(0)
    line, text = lines[0]
    reader = LineReader(line, text)
    reader.take_one_of((part,))
    chosen = []
    for name, words in options:
        reader.take_one_of((name,))
        chosen.append(reader.take_one_of(words))
    reader.end()
    return chosen


def read_only_line(part, options, lines):
    """Return the words that the one line of a part's book chooses, for a part whose books have one line."""
    chosen = read_options(part, options, lines)
    if len(lines) > 1:
        raise InvalidText(lines[1][0])
    return chosen
