"""The desk: a main store, its log, and two copies that users ask."""

from bookstogether.errors import ZeroDivisor
from bookstogether.followers import Follower
from bookstogether.hidingbooks import HidingBook
from bookstogether.logs import Log
from bookstogether.sessions import Sessions
from bookstogether.shelves import BY_TABLE, Shelf, shelf_of
from bookstogether.totals import GreatestOnly
from bookstogether.turns import SLOTS, check_turn
from bookstogether.weaving import Main


class Event:
    """What came of a turn."""

    def __init__(
        self, turn, told, *, looks=None, road=BY_TABLE, script=None, position=None, broken=(), ring=()
    ):
        self.turn = turn
        self.told = told
        self.looks = looks
        self.road = road
        self.script = script
        self.position = position
        self.broken = broken
        self.ring = ring


class LateCopy:
    """A copy of the main store, which a follower of the log keeps."""

    def __init__(self, world, books, start, main):
        self.heap = start.copy()
        own = shelf_of(world, books, self.heap)
        # What the follower keeps up to date; questions may look at other ones.
        self.entries = own.entries
        self.totals = own.totals
        self.shelf = self._asked_shelf(world, books, main)
        side = GreatestOnly(self.totals) if books.log.kept == "logged" else self.totals
        self.follower = Follower(main.log, world, self.heap, self.totals, [self.entries, side])

    def _asked_shelf(self, world, books, main):
        """Return the shelf on which questions are carried out."""
        asked = books if books.copies.hides else books.altered(hiding=HidingBook())
        # Nobody writes on the shelf itself, so these entries stay those of the start.
        entries = self.entries.copy() if books.copies.indexes == "start" else self.entries
        totals = main.shelf.totals if books.copies.summaries == "main" else self.totals
        return Shelf(world, asked, self.heap, entries, totals)


class Desk:
    """A main store with its log, two copies, the sessions of the users, and an event for each turn."""

    def __init__(self, world, books, store):
        self.world = world
        self.books = books
        self.start = store.heap.copy()
        self.log = Log(books.log)
        self.main = Main(world, books, store.heap.copy(), self.log)
        self.copies = [LateCopy(world, books, self.start, self.main) for _ in SLOTS]
        self.sessions = Sessions(books.copies)
        self.events = []

    def __len__(self):
        return len(self.events)

    def __iter__(self):
        return iter(self.events)

    def __call__(self, turn):
        """Carry out a turn and return its tell."""
        check_turn(self.world, turn, len(self.events))
        event = self._take(turn)
        self.events.append(event)
        return event.told

    def run(self, *turns):
        """Carry out turns and return the list of their tells."""
        for at, turn in enumerate(turns, start=len(self.events)):
            check_turn(self.world, turn, at)
        return [self(turn) for turn in turns]

    def _take(self, turn):
        """Carry out a valid turn and return its event."""
        if turn[0] == "do":
            return self._do(turn)
        if turn[0] == "ask":
            return self._ask(turn)
        if turn[0] == "end":
            return Event(turn, self._end(turn[1]))
        if turn[0] == "back":
            return Event(turn, self.main.back(turn[1]))
        if turn[0] == "cut":
            self.log.cut([copy.follower.confirmed for copy in self.copies])
            return Event(turn, ("cut", self.log.start))
        return Event(turn, _move(self.copies[turn[1]].follower, turn[0]))

    def _do(self, turn):
        """Have a user ask the main store for a statement."""
        _, user, statement = turn
        road = self.main.shelf.road(user, statement)
        told, looks, script = self.main.do(user, statement, road)
        ring = self.main.table.ring() if told == ("waits",) else ()
        return Event(turn, told, looks=looks, road=road, script=script, ring=ring)

    def _end(self, user):
        """End the script of a user, and tell its session."""
        before = self.main.position
        told = self.main.end(user)
        if told == ("ended",):
            self.sessions.ended(user, self.main.position, self.main.position > before)
        return told

    def _ask(self, turn):
        """Ask a copy."""
        _, user, slot, question = turn
        copy = self.copies[slot]
        position = self.log.script_count(copy.follower.applied)
        if not self.books.copies.served:
            return Event(turn, ("closed",))
        if not self.sessions.lets(user, position):
            return Event(turn, ("late",))
        road = copy.shelf.road(user, question)
        tell, looks = _answer_at(copy.shelf, user, question, road)
        broken = self.sessions.broken(user, position)
        self.sessions.answered(user, position)
        return Event(turn, tell, looks=looks, road=road, position=position, broken=broken)


def _answer_at(shelf, user, question, road):
    """Return the tell of a question, a refusal too, and its looks."""
    try:
        return shelf.ask(user, question, road)
    except ZeroDivisor as refusal:
        return (refusal.told, None)


def _move(follower, word):
    """Carry out the turn of a follower and return the tell."""
    if word == "follow":
        return ("followed",) if follower.follow() else ("nothing",)
    if word == "confirm":
        follower.confirm()
        return ("confirmed", follower.confirmed)
    follower.stop()
    return ("stopped", follower.read)
