"""What is due at a desk, told by the plain store, and the faults of a desk."""

from bookstogether.desks import Desk
from bookstogether.entries import due_entries
from bookstogether.looking import exceeds
from bookstogether.running import run_plainly
from bookstogether.weaving import ENDED, UNDONE


def _run_for(desk, event, heap):
    """Carry out the statement of an event plainly on a heap, for what its user is shown, and return its tell."""
    user = event.turn[1]

    def sees(table, row):
        return desk.books.hiding.sight(user, table, row)

    return run_plainly(desk.world, heap, event.turn[-1], sees)[0]


def _due_looks(desk, event, heap):
    """Return the number of the rows of a heap that the user of an event is shown and that lie on its road."""
    user = event.turn[1]
    table = event.turn[-1][1]
    if event.road[0] == "summary":
        return 0
    shown = [row for row in heap.bag(table) if desk.books.hiding.sight(user, table, row)]
    if event.road[0] == "table":
        return len(shown)
    _, name, span = event.road
    index = desk.books.indexes.index(name)
    return len([row for row in shown if index.holds(row) and row[index.column] in span])


def _has_wrong_looks(desk, event, heap):
    """Tell whether the looks of an event were told and break a claim, or are not those that are due."""
    if event.looks is None:
        return False
    if event.road[0] == "index":
        _, name, span = event.road
        if exceeds(desk.books.looks, name, span, event.looks):
            return True
    return event.looks != _due_looks(desk, event, heap)


def _statement_faults(desk, at, heap):
    """Return the faults of the statement of a turn, for the heap on which it should have run, and run it there."""
    event = desk.events[at]
    found = [(at, "looks")] if _has_wrong_looks(desk, event, heap) else []
    if _run_for(desk, event, heap) != event.told:
        found.append((at, "answer"))
    return found


class Paper:
    """The plain store that runs the scripts of a desk in their order."""

    def __init__(self, desk):
        self.heap = desk.start.copy()
        self.faults = []
        # The state at the beginning, and behind each ended script that wrote rows.
        self.states = [self.heap.copy()]
        for number in desk.main.order():
            self._run_script(desk, desk.main.scripts[number])

    def _run_script(self, desk, script):
        """Run the statements that were carried out for a script."""
        before = self.heap.copy()
        for at, event in enumerate(desk.events):
            if event.script == script.number:
                self.faults.extend(_statement_faults(desk, at, self.heap))
        if script.fate == UNDONE:
            self.heap = before
        elif script.fate == ENDED and len(script.writes) > 0:
            self.states.append(self.heap.copy())


def _event_faults(desk, paper):
    """Return the faults of answers of copies, of rings and of sessions."""
    found = []
    for at, event in enumerate(desk.events):
        if event.position is not None:
            found.extend(_statement_faults(desk, at, paper.states[event.position]))
        if len(event.ring) > 0:
            found.append((at, "ring"))
        if len(event.broken) > 0:
            found.append((at, "session"))
    return found


def _differs(desk, copy):
    """Tell whether a copy has other rows than the main store, or other entries or values than are due for them."""
    main = desk.main.shelf.heap
    if not all([copy.heap.bag(table) == main.bag(table) for table in desk.world]):
        return True
    for index in desk.books.indexes.indexes:
        if copy.entries.listed(index.name) != due_entries(index, copy.heap):
            return True
    for summary in desk.books.summaries.summaries:
        due = summary.due_amount(copy.heap.bag(summary.table))
        if not copy.totals.is_open(summary.name) and copy.totals.current(summary.name) != due:
            return True
    return False


def _follower_faults(desk):
    """Return a fault for each copy that is not as the main store when it has caught up."""
    if len(desk.main.unfinished) > 0:
        return []
    found = []
    for copy in desk.copies:
        copy.follower.catch_up()
        if _differs(desk, copy):
            found.append((len(desk), "follower"))
    return found


def desk_faults(desk):
    """Return the faults of a desk, ascending; if no script is open, its copies catch up."""
    paper = Paper(desk)
    return sorted(paper.faults + _event_faults(desk, paper) + _follower_faults(desk))


def story_faults(world, books, store, story):
    """Return the faults of a new desk behind a story."""
    desk = Desk(world, books, store)
    desk.run(*story)
    return desk_faults(desk)
