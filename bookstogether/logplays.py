"""Plays of a log with two followers, and least ones that go wrong."""

from bookstogether.errors import BookError, InvalidTurn
from bookstogether.followers import Follower, apply_unit
from bookstogether.heaps import Heap
from bookstogether.logjudge import judge_log
from bookstogether.logs import Log
from bookstogether.rows import FREE
from bookstogether.running import everyone, run_plainly
from bookstogether.statements import check_statement
from bookstogether.turns import SLOTS, has_form


def replayed(world, units):
    """Return a new heap to which the units were applied."""
    heap = Heap()
    for unit in units:
        apply_unit(world, heap, unit)
    return heap


def shortened(units):
    """Return the units without the row parts that a later row part with the same number makes useless."""
    later = {}
    kept = []
    for script, parts in list(units)[::-1]:
        needed = []
        for part in parts[::-1]:
            if part[0] != "row" or part[2] not in later:
                needed.append(part)
            if part[0] == "row":
                later[part[2]] = True
        kept.append((script, tuple(needed[::-1])))
    return kept[::-1]


def _is_step(world, step):
    """Tell whether a tuple is a step of a play."""
    if not has_form(step) or step[0] == "ask":
        return False
    # A user is the place of a table.
    if step[0] in ("do", "end", "back") and step[1] >= len(world):
        return False
    return step[0] != "do" or _is_statement_about(world, step[2], world.tables[step[1]])


def _is_statement_about(world, statement, table):
    """Tell whether a tuple is a statement of the world that names this table."""
    try:
        check_statement(world, statement)
    except BookError:
        return False
    return statement[1] == table


class Play:
    """A main heap, its log, and two followers."""

    def __init__(self, world, book):
        self.world = world
        self.heap = Heap()
        self.log = Log(book)
        self.followers = [Follower(self.log, world, Heap(), None, []) for _ in SLOTS]
        self.scripts = 0
        # For each user with an open script the pair of its number and the list of its writes.
        self.unfinished = {}

    def take(self, step):
        """Carry out a step."""
        word, *parts = step
        if word == "do":
            self.do(*parts)
        elif word == "end":
            self.end(*parts)
        elif word == "back":
            self.back(*parts)
        elif word == "cut":
            self.log.cut([follower.confirmed for follower in self.followers])
        else:
            self._take_at(word, self.followers[step[1]])

    def _take_at(self, word, follower):
        """Carry out a step of a follower."""
        if word == "follow":
            follower.follow()
        elif word == "confirm":
            follower.confirm()
        else:
            follower.stop()

    def do(self, user, statement):
        """Carry out a statement in the open script of a user, or in a new one."""
        if user not in self.unfinished:
            self.unfinished[user] = (self.scripts, [])
            self.log.begin(self.scripts)
            self.scripts += 1
        script, writes = self.unfinished[user]
        _, made = run_plainly(self.world, self.heap, statement, everyone)
        if len(made) > 0:
            writes.extend(made)
            self.log.wrote(script, statement, [(("row", table, at, new), []) for table, at, _, new in made])

    def end(self, user):
        """End the open script of a user, if there is one."""
        if user in self.unfinished:
            script, _ = self.unfinished.pop(user)
            self.log.end(script)

    def back(self, user):
        """Take the open script of a user back, if there is one."""
        if user not in self.unfinished:
            return
        script, writes = self.unfinished.pop(user)
        undoing = writes[::-1]
        for table, at, old, _ in undoing:
            self.heap.write(table, at, old)
        if len(undoing) > 0:
            self.log.undone(script, [(("row", table, at, old), []) for table, at, old, _ in undoing])
        self.log.back(script)

    def finish(self):
        """Take the open scripts back, and have the followers catch up."""
        for user in sorted(list(self.unfinished)):
            self.back(user)
        for follower in self.followers:
            follower.catch_up()

    def state(self, heap):
        """Return the state of a heap."""
        return tuple([tuple(heap.bag(table)) for table in self.world])


def play(world, book, steps):
    """Carry out the steps of a play and return the states of the main heap and of those of both followers."""
    for at, step in enumerate(steps):
        if not _is_step(world, step):
            raise InvalidTurn(at)
    played = Play(world, book)
    for step in steps:
        played.take(step)
    played.finish()
    return tuple([played.state(heap) for heap in [played.heap] + [one.heap for one in played.followers]])


def goes_wrong(world, book, steps):
    """Tell whether a follower has other rows than the main heap behind a play."""
    main, first, second = play(world, book, steps)
    return first != main or second != main


def least_play(world, book):
    """Return the fewest steps that go wrong, or None."""
    found = judge_log(world, book)
    if len(found) == 0:
        return None
    steps = [("do", 0, ("put", world.tables[0], FREE))]
    if ("undo",) in found:
        return tuple(steps)
    steps.extend([("end", 0), ("follow", 0)])
    if ("ahead",) in found or ("again",) in found:
        steps.append(("stop", 0))
    else:
        # Only what is confirmed can be cut.
        steps.extend([("confirm", 0)] if book.confirm == "behind" else [])
        steps.append(("cut",))
    return tuple(steps)
