"""Histories of copies that answer sessions, and least ones that break a promise."""

from bookstogether.copyjudge import unkept
from bookstogether.errors import InvalidTurn
from bookstogether.names import USERS
from bookstogether.sessions import Sessions

# For the first word of each event what its other parts are.
EVENTS = {"end": ("user", "flag"), "move": ("copy",), "back": ("copy",), "ask": ("user", "copy")}


class History:
    """A main store and copies, as the positions that they have, and the sessions of the users."""

    def __init__(self, book, *, copies=2):
        self.book = book
        self.main = 0
        self.positions = [0 for _ in range(copies)]
        self.sessions = Sessions(book)
        self.events = []
        self.breaks = []

    def __len__(self):
        return len(self.events)

    def __iter__(self):
        return iter(self.events)

    def __call__(self, event):
        """Carry out an event and return its tell."""
        self._check(event, len(self.events))
        tell = self._carry_out(event)
        self.events.append(event)
        return tell

    def run(self, *events):
        """Carry out events and return the list of their tells."""
        for at, event in enumerate(events, start=len(self.events)):
            self._check(event, at)
        return [self(event) for event in events]

    def broken(self):
        """Return the pairs of the place of an event and a promise that its answer broke."""
        return tuple(self.breaks)

    @property
    def as_promised(self):
        """Whether no promise was broken."""
        return len(self.breaks) == 0

    def _check(self, event, at):
        """Raise InvalidTurn if a tuple is no event."""
        if len(event) == 0 or event[0] not in EVENTS or len(event) != 1 + len(EVENTS[event[0]]):
            raise InvalidTurn(at)
        for kind, part in zip(EVENTS[event[0]], event[1:]):
            if not self._is_part(kind, part):
                raise InvalidTurn(at)

    def _is_part(self, kind, part):
        """Tell whether the part of an event is of a kind."""
        if kind == "user":
            return part in USERS
        if kind == "copy":
            return part in range(len(self.positions))
        return isinstance(part, bool)

    def _carry_out(self, event):
        """Carry out a valid event and return its tell."""
        word, *parts = event
        if word == "end":
            return self._end(*parts)
        if word == "ask":
            return self._ask(*parts)
        copy = event[1]
        if word == "move":
            self.positions[copy] = min(self.positions[copy] + 1, self.main)
        else:
            self.positions[copy] = max(self.positions[copy] - 1, 0)
        return self.positions[copy]

    def _end(self, user, wrote):
        """End a script of a user and return the main position."""
        if wrote:
            self.main += 1
        self.sessions.ended(user, self.main, wrote)
        return self.main

    def _ask(self, user, copy):
        """Ask a copy and tell whether it answers."""
        position = self.positions[copy]
        if not self.book.served or not self.sessions.lets(user, position):
            return False
        self.breaks.extend([(len(self.events), promise) for promise in self.sessions.broken(user, position)])
        self.sessions.answered(user, position)
        return True


def least_history(book):
    """Return the fewest events by which two copies break a promise, or None."""
    if len(unkept(book)) == 0:
        return None
    promised = [word for word in ("own", "main") if word in book.promises]
    marked = [word for word in ("own", "main") if word in book.marks]
    if len(promised) > 0 and len(marked) == 0:
        return (("end", 0, True), ("ask", 0, 0))
    if "main" in promised and "main" not in marked:
        return (("end", 0, True), ("end", 1, False), ("ask", 1, 0))
    return (("end", 0, True), ("move", 0), ("ask", 1, 0), ("ask", 1, 1))
