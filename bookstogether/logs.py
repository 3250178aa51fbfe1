"""The log: what scripts have written, in units for late readers."""

from bookstogether.errors import UnknownNumber


class Log:
    """Units, which scripts that may overlap append under a book."""

    def __init__(self, book):
        self.book = book
        self.start = 0
        # All units ever appended, also those before `start`.
        self.units = []
        # For each script that is not over the parts of its portions.
        self.parts = {}
        # From the first script that is not over on, the scripts in the order of their begins.
        self.begun = []
        # The parts of the units that wait for scripts that began earlier.
        self.waiting_parts = {}
        # The scripts that ended and have written, in the order of their ends, and the last place of each script.
        self.finished = []
        self.last_places = {}

    def __len__(self):
        return len(self.units)

    def begin(self, script):
        """Take note that a script begins."""
        self.parts[script] = []
        self.begun.append(script)

    def wrote(self, script, statement, changes):
        """Take note of what a statement of a script changed."""
        for portion in self._portions(statement, changes):
            self.parts[script].extend(portion)
            if self.book.when == "write":
                self._append(script, portion)

    def undone(self, script, changes):
        """Take note of the changes that undo what a script wrote."""
        if self.book.when == "write" and self.book.what == "image":
            for portion in self._portions((), changes):
                self._append(script, portion)

    def end(self, script):
        """Take note that a script ended."""
        parts = self.parts.pop(script)
        if len(parts) > 0:
            self.finished.append(script)
            if self.book.when == "end":
                self._append(script, parts)
            elif self.book.when == "begin":
                self.waiting_parts[script] = parts
        self._append_waiting()

    def back(self, script):
        """Take note that a script was taken back."""
        self.parts.pop(script)
        self._append_waiting()

    def _portions(self, statement, changes):
        """Return the portions of a statement that made these changes."""
        if len(changes) == 0:
            return []
        if self.book.what == "image":
            return [[image] + self._logged(differences) for image, differences in changes]
        together = [pair for _, differences in changes for pair in differences]
        return [[("statement", statement)] + self._logged(together)]

    def _logged(self, differences):
        """Return the summary parts for the differences."""
        if self.book.kept == "own":
            return []
        return [("summary", name, difference) for name, difference in differences]

    def _append(self, script, parts):
        """Append a unit."""
        self.last_places[script] = len(self.units)
        self.units.append((script, tuple(parts)))

    def _append_waiting(self):
        """Append the units that need no longer wait for a script that began earlier."""
        while len(self.begun) > 0 and self.begun[0] not in self.parts:
            script = self.begun.pop(0)
            if script in self.waiting_parts:
                self._append(script, self.waiting_parts.pop(script))

    def cut(self, positions):
        """Forget the units before one of these places."""
        if self.book.cut == "never" or len(positions) == 0:
            return
        place = min(positions) if self.book.cut == "least" else max(positions)
        self.start = max(self.start, place)

    def unit(self, at):
        """Return the unit at a place."""
        if not self.start <= at < len(self.units):
            raise UnknownNumber(at)
        return self.units[at]

    def script_count(self, applied):
        """Return how many first ones of the scripts that ended and have written lie before a place."""
        count = 0
        for script in self.finished:
            # A script whose unit waits has no place.
            if self.last_places.get(script, applied) >= applied:
                break
            count += 1
        return count
