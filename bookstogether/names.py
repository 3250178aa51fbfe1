"""Names and users."""

from bookstogether.errors import InvalidName

LETTERS = "abcdefghijklmnopqrstuvwxyz"
LONGEST = 8
RESERVED = ("on", "set", "new")
USERS = (0, 1, 2)


def is_name(name):
    """Tell whether a string is a name."""
    if not 1 <= len(name) <= LONGEST or name in RESERVED:
        return False
    return all([letter in LETTERS for letter in name])


def check_name(name):
    """Raise InvalidName for a string that is not a name."""
    if not is_name(name):
        raise InvalidName(name)
