"""Turns of a story, and their texts."""

from bookstogether.errors import BookError, InvalidTurn
from bookstogether.names import USERS
from bookstogether.statements import check_statement, is_question
from bookstogether.texts import take_question, take_statement, write_statement

SLOTS = (0, 1)

# For the first word of each turn what its other parts are.
TURNS = {
    "do": ("user", "statement"),
    "end": ("user",),
    "back": ("user",),
    "follow": ("slot",),
    "confirm": ("slot",),
    "stop": ("slot",),
    "cut": (),
    "ask": ("user", "slot", "question"),
}


def has_form(turn):
    """Tell whether a tuple is a turn, but for its statement or question, which is only some tuple."""
    if len(turn) == 0 or turn[0] not in TURNS or len(turn) != 1 + len(TURNS[turn[0]]):
        return False
    return all([_is_part(kind, part) for kind, part in zip(TURNS[turn[0]], turn[1:])])


def _is_part(kind, part):
    """Tell whether the part of a turn is of a kind."""
    if kind == "user":
        return part in USERS
    if kind == "slot":
        return part in SLOTS
    return isinstance(part, tuple)


def check_turn(world, turn, at):
    """Raise InvalidTurn if a tuple is no turn; a wrong statement is told as the cause."""
    if not has_form(turn):
        raise InvalidTurn(at)
    if turn[0] not in ("do", "ask"):
        return
    statement = turn[-1]
    try:
        check_statement(world, statement)
    except BookError as error:
        raise InvalidTurn(at) from error
    if turn[0] == "ask" and not is_question(statement):
        raise InvalidTurn(at)


def write_turn(turn):
    """Return the line of a turn."""
    return " ".join([write_statement(part) if isinstance(part, tuple) else str(part) for part in turn])


def take_turn(reader):
    """Take the words of a turn."""
    word = reader.take_one_of(tuple(TURNS))
    parts = []
    for kind in TURNS[word]:
        parts.append(_take_part(reader, kind))
    return (word, *parts)


def _take_part(reader, kind):
    """Take a part of a turn."""
    if kind == "user":
        return reader.take_number()
    if kind == "slot":
        return int(reader.take_one_of(("0", "1")))
    return take_statement(reader) if kind == "statement" else take_question(reader)
