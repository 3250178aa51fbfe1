"""Scripts that are woven under a table of locks, and the orders in which they can go on."""

from bookstogether.lockneeds import meet
from bookstogether.locktables import LockTable


def weave(book, *scripts, turns):
    """Weave scripts, each a list of steps, by turns, and return the events."""
    table = LockTable(book)
    granted = [0 for _ in scripts]
    events = []
    for place in turns:
        steps = scripts[place]
        at = granted[place]
        word = _take_turn(table, place, steps, at)
        events.append((place, word, min(at, len(steps))))
        if word in ("granted", "ended"):
            granted[place] = at + 1
        elif word == "back":
            granted[place] = 0
    return events


def _take_turn(table, user, steps, at):
    """Have a user ask for its step, or end behind the last one, and return the word of the turn."""
    if at > len(steps):
        return "idle"
    if at == len(steps):
        table.release(user)
        return "ended"
    word = table.ask(user, steps[at])
    if word == "granted":
        table.turn_over(user)
    elif word == "back":
        table.release(user)
    return word


class Moves:
    """The moves of scripts from state to state."""

    def __init__(self, scripts):
        self.lengths = [len(script) for script in scripts]
        # For a step and a script: how many first steps of the script may be granted for the step to be granted.
        self.bounds = {}
        for place, script in enumerate(scripts):
            for at, step in enumerate(script):
                for beside, other in enumerate(scripts):
                    self.bounds[(place, at, beside)] = _steps_beside(step, other)

    def can_move(self, state, place):
        """Tell whether the script at a place can move in a state."""
        at = state[place]
        if at >= self.lengths[place]:
            return at == self.lengths[place]
        for beside, granted in enumerate(state):
            over = granted > self.lengths[beside]
            if beside != place and not over and granted > self.bounds[(place, at, beside)]:
                return False
        return True

    def movers(self, state):
        """Return the places of the scripts that can move in a state, ascending."""
        return [place for place in range(len(state)) if self.can_move(state, place)]

    def is_over(self, state):
        """Tell whether all scripts have ended."""
        return all([at > length for at, length in zip(state, self.lengths)])

    def states(self, start):
        """Return the states to which moves lead, ascending."""
        found = {start: True}
        ahead = [start]
        while len(ahead) > 0:
            state = ahead.pop()
            for place in self.movers(state):
                after = _moved(state, place)
                if after not in found:
                    found[after] = True
                    ahead.append(after)
        return sorted(list(found))

    def numbers_of_ways(self, start):
        """Return the number of the ways of each state to which moves lead."""
        numbers = {}
        # Each move leads to a greater state, whose number is known by then.
        for state in sorted(self.states(start), reverse=True):
            many = [numbers[_moved(state, place)] for place in self.movers(state)]
            numbers[state] = 1 if self.is_over(state) else sum(many)
        return numbers


def _steps_beside(step, script):
    """Return how many first steps of a script do not meet a step."""
    for at, granted in enumerate(script):
        if meet(step, granted):
            return at
    return len(script)


def _moved(state, place):
    """Return the state behind a move of the script at a place."""
    return state[:place] + (state[place] + 1,) + state[place + 1:]


def able(state, *scripts):
    """Return the places of the scripts that can move, ascending."""
    return tuple(Moves(scripts).movers(state))


def reached(state, *scripts):
    """Yield the states to which moves lead from a state, ascending."""
    for found in Moves(scripts).states(state):
        yield found


def ways(state, *scripts):
    """Return the number of the ways of a state."""
    return Moves(scripts).numbers_of_ways(state)[state]


def finishing(state, *scripts, nth=0):
    """Return the way of a state at an index, or None if there are not so many."""
    moves = Moves(scripts)
    numbers = moves.numbers_of_ways(state)
    if nth >= numbers[state]:
        return None
    way = []
    now = state
    before = nth
    while not moves.is_over(now):
        for place in moves.movers(now):
            after = _moved(now, place)
            if before < numbers[after]:
                break
            before -= numbers[after]
        way.append(place)
        now = after
    return way
