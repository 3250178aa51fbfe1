"""Followers, which read the log late and apply its units."""

from bookstogether.running import everyone, run_plainly


def apply_unit(world, heap, unit, *, totals=None, keepers=()):
    """Apply a unit to a heap, and tell the keepers and the totals of it."""
    for part in unit[1]:
        if part[0] == "summary":
            if totals is not None:
                _, name, difference = part
                totals.add(name, difference)
            continue
        for table, number, old, new in _applied_writes(world, heap, part):
            for keeper in keepers:
                keeper.write(table, number, old, new)


def _applied_writes(world, heap, part):
    """Apply a row part or a statement part to a heap and return the writes."""
    if part[0] == "statement":
        return run_plainly(world, heap, part[1], everyone)[1]
    _, table, number, new = part
    old = heap[number][1] if number in heap else None
    if old is None and new is None:
        return []
    heap.write(table, number, new)
    return [(table, number, old, new)]


class Follower:
    """A late reader of a log, which applies its units to a heap, totals and keepers."""

    def __init__(self, log, world, heap, totals, keepers):
        self.log = log
        self.world = world
        self.heap = heap
        self.totals = totals
        self.keepers = list(keepers)
        self.read = 0
        self.confirmed = 0
        # The unit that is held, or None.
        self.on_hand = None

    @property
    def applied(self):
        """The place behind the last unit that was applied."""
        return self.read if self.on_hand is None else self.read - 1

    def follow(self):
        """Apply a unit or take one, and tell whether there was one."""
        moved = self._apply_held()
        self.read = max(self.read, self.log.start)
        if self.read < len(self.log):
            self._take(self.log.unit(self.read))
            moved = True
        return moved

    def _apply_held(self):
        """Apply the unit that is held, and tell whether there was one."""
        if self.on_hand is None:
            return False
        self._apply(self.on_hand)
        self.on_hand = None
        return True

    def _take(self, unit):
        """Take the next unit, to hold it or to apply it."""
        if self.log.book.confirm == "ahead":
            self.on_hand = unit
        else:
            self._apply(unit)
        self.read += 1
        if self.log.book.confirm != "behind":
            self.confirmed = self.read

    def _apply(self, unit):
        """Apply a unit."""
        apply_unit(self.world, self.heap, unit, totals=self.totals, keepers=self.keepers)

    def confirm(self):
        """Confirm what was read."""
        self.confirmed = self.read

    def stop(self):
        """Go back to what was confirmed."""
        self.read = self.confirmed
        self.on_hand = None

    def catch_up(self):
        """Follow until there is nothing more, and return how often there was something."""
        count = 0
        while self.follow():
            count += 1
        return count
