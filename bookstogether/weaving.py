"""The main store: scripts of users that are woven under the table of locks."""

from bookstogether.deeds import carry_out
from bookstogether.locktables import LockTable
from bookstogether.needing import statement_needs
from bookstogether.shelves import shelf_of
from bookstogether.statements import is_question

# What became of a script.
OPEN = "open"
ENDED = "ended"
UNDONE = "undone"


class Script:
    """The statements that were carried out for a user up to an end."""

    def __init__(self, number):
        self.number = number
        self.fate = OPEN
        self.writes = []
        # For each summary whose share the script changed what was kept for it before.
        self.images = {}

    def note(self, writes, saved):
        """Take note of what a statement wrote, and of what was kept for summaries before."""
        self.writes.extend(writes)
        for name, pair in saved.items():
            if name not in self.images:
                self.images[name] = pair


class Main:
    """The main store on a heap."""

    def __init__(self, world, books, heap, log):
        self.books = books
        self.shelf = shelf_of(world, books, heap)
        self.table = LockTable(books.locks)
        self.log = log
        self.position = 0
        self.scripts = []
        # For each user with an open script this script.
        self.unfinished = {}
        # The numbers of the other scripts, in the order in which they were finished.
        self.finished = []
        self.spent = {}

    def do(self, user, statement, road):
        """Have a user ask for a statement; return its tell, its looks and the number of its script."""
        told = self.table.ask(user, statement_needs(self.shelf, user, statement, road))
        if told == "waits":
            self._spend(user, statement, road)
            return (("waits",), None, None)
        if told == "back":
            self.back(user)
            return (("back",), None, None)
        script = self._open_script(user)
        tell, looks, writes, saved = carry_out(self.shelf, user, statement, road)
        script.note(writes, saved)
        spent = self.spent.pop(user, 0)
        self.table.turn_over(user)
        if len(writes) > 0:
            self.log.wrote(script.number, statement, self._changes(writes))
        return (tell, None if looks is None else looks + spent, script.number)

    def _spend(self, user, statement, road):
        """Count the looks of a question for which a user only asks for the locks behind them."""
        if self.books.locks.asks != "behind" or not is_question(statement):
            return
        looks = self.shelf.looks_ahead(user, statement, road)
        if looks is not None:
            self.spent[user] = self.spent.get(user, 0) + looks

    def _open_script(self, user):
        """Return the open script of a user, or a new one."""
        if user not in self.unfinished:
            script = Script(len(self.scripts))
            self.scripts.append(script)
            self.unfinished[user] = script
            self.log.begin(script.number)
        return self.unfinished[user]

    def _changes(self, writes):
        """Return what the log is told of writes."""
        totals = self.shelf.totals
        return [
            (("row", table, number, new), totals.differences(table, old, new)) for table, number, old, new in writes
        ]

    def end(self, user):
        """End the script of a user and return the tell."""
        script = self._finish(user, ENDED)
        if script is None:
            return ("idle",)
        if len(script.writes) > 0:
            self.position += 1
        self.log.end(script.number)
        return ("ended",)

    def back(self, user):
        """Take the script of a user back and return the tell."""
        script = self._finish(user, UNDONE)
        if script is None:
            return ("idle",)
        undoing = [(table, number, new, old) for table, number, old, new in script.writes[::-1]]
        self._undo(script, undoing)
        if len(undoing) > 0:
            self.log.undone(script.number, self._changes(undoing))
        self.log.back(script.number)
        return ("undone",)

    def _undo(self, script, undoing):
        """Make the writes that undo a script."""
        by_difference = self.books.summaries.undo == "difference"
        for table, number, old, new in undoing:
            self.shelf.write(table, number, old, new, kept=by_difference)
        if not by_difference:
            for name, pair in script.images.items():
                self.shelf.totals.restore(name, pair)

    def _finish(self, user, fate):
        """Release a user, and return its script, which is open no more, or None."""
        self.table.release(user)
        self.spent.pop(user, 0)
        script = self.unfinished.pop(user, None)
        if script is not None:
            script.fate = fate
            self.finished.append(script.number)
        return script

    def order(self):
        """Return the numbers of the scripts, first the finished ones, then the open ones by users."""
        return self.finished + [self.unfinished[user].number for user in sorted(list(self.unfinished))]
