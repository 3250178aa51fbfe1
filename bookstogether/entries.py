"""The entries of indexes."""

from bookstogether.indexbooks import index_group


def _entry_key(entry):
    """Return the key by which entries are ordered."""
    value, number = entry
    return (-1 if value is None else value, number)


def due_entries(index, heap):
    """Return the entries that are due for the rows of a heap, in order."""
    pairs = heap.pairs(index.table)
    return sorted([(row[index.column], number) for number, row in pairs if index.holds(row)], key=_entry_key)


class Entries:
    """A list of entries for each index of a book."""

    def __init__(self, book):
        self.book = book
        self.lists = {index.name: [] for index in book.indexes}

    def fill(self, heap):
        """Replace the entries by those that are due for the rows of a heap."""
        self.lists = {index.name: due_entries(index, heap) for index in self.book.indexes}

    def touches(self, index, old, new):
        """Tell whether the change from an old to a new row, None for none, touches an index."""
        if not any([row is not None and index.holds(row) for row in (old, new)]):
            return False
        if self.book.writes == "both" or old is None or new is None:
            return True
        return self.book.writes == "column" and old[index.column] != new[index.column]

    def write(self, table, number, old, new):
        """Take note of the change of the row with this number."""
        for index in self.book.of_table(table):
            if self.touches(index, old, new):
                self._replace(index, number, new)

    def _replace(self, index, number, new):
        """Have the entry of the new row, if one is due, instead of the entry with this number."""
        entries = [entry for entry in self.lists[index.name] if entry[1] != number]
        if new is not None and index.holds(new):
            entries.append((new[index.column], number))
        self.lists[index.name] = sorted(entries, key=_entry_key)

    def listed(self, name):
        """Return the entries of an index, in order."""
        return list(self.lists[self.book.index(name).name])

    def numbers(self, name, span):
        """Return the numbers of the entries of an index whose value is in the span, in order."""
        return [number for value, number in self.listed(name) if value in span]

    def twin(self, name, row, number):
        """Tell whether the index group of a row is the value of an entry with another number."""
        own = index_group(self.book.index(name), row)
        if own is None:
            return False
        return any([value == own and other != number for value, other in self.listed(name)])

    def copy(self):
        """Return entries of the same book with equal lists, which change separately."""
        other = Entries(self.book)
        other.lists = {name: list(entries) for name, entries in self.lists.items()}
        return other
