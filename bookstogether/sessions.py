"""Sessions: what users have written and seen."""

from bookstogether.copybooks import MARKS
from bookstogether.names import USERS


class Sessions:
    """The marks of the users under a book of copies."""

    def __init__(self, book):
        self.book = book
        self.positions = {(user, word): 0 for user in USERS for word in MARKS}

    def _raise_to(self, user, word, position):
        """Raise a mark of a user to a position."""
        self.positions[(user, word)] = max(self.mark(user, word), position)

    def ended(self, user, position, wrote):
        """Take note that a script of the user ended, at a position of the main store."""
        self._raise_to(user, "main", position)
        if wrote:
            self._raise_to(user, "own", position)

    def answered(self, user, position):
        """Take note that a copy at a position answered the user."""
        self._raise_to(user, "seen", position)

    def mark(self, user, word):
        """Return a mark of the user."""
        return self.positions[(user, word)]

    def lets(self, user, position):
        """Tell whether a copy at a position may answer the user."""
        return all([self.mark(user, word) <= position for word in self.book.marks])

    def broken(self, user, position):
        """Return the promises that an answer of a copy at a position breaks, in order."""
        return tuple([word for word in self.book.promises if self.mark(user, word) > position])
