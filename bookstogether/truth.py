"""The three truth values."""

from bookstogether.errors import InvalidCondition

WORDS = ("false", "unknown", "true")
MEANINGS = (False, None, True)


class Truth:
    """A truth value: false, unknown or true, with the rank 0, 1 or 2."""

    COUNT = 3

    def __init__(self, rank):
        self.rank = rank

    @staticmethod
    def of(value):
        """Return the truth value of False, None or True."""
        if value is None:
            return Truth(1)
        return Truth(2 if value else 0)

    @staticmethod
    def from_word(word):
        """Return the truth value that has this word."""
        if word not in WORDS:
            raise InvalidCondition("not the word of a truth value")
        return Truth(WORDS.index(word))

    @property
    def value(self):
        """False, None (unknown) or True."""
        return MEANINGS[self.rank]

    @property
    def word(self):
        """The word of the truth value."""
        return WORDS[self.rank]

    def __and__(self, other):
        return self if self.rank < other.rank else other

    def __or__(self, other):
        return self if self.rank > other.rank else other

    def __xor__(self, other):
        if self.value is None or other.value is None:
            return Truth(1)
        return Truth.of(self.rank != other.rank)

    def __invert__(self):
        return Truth(2 - self.rank)

    def __eq__(self, other):
        if not isinstance(other, Truth):
            return NotImplemented
        return self.rank == other.rank

    def __ne__(self, other):
        if not isinstance(other, Truth):
            return NotImplemented
        return self.rank != other.rank

    def __lt__(self, other):
        if not isinstance(other, Truth):
            return NotImplemented
        return self.rank < other.rank

    def __le__(self, other):
        if not isinstance(other, Truth):
            return NotImplemented
        return self.rank <= other.rank

    def __bool__(self):
        return bool(self.rank == 2)
