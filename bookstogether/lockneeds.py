"""Which locks a reading and a writing need, and when needs meet."""

STORE = ("store",)

# The pairs of a mode and the modes with which it is compatible.
COMPATIBLE = {"s": ("s", "is"), "x": (), "is": ("s", "is", "ix"), "ix": ("is", "ix")}


def compatible(mode, other):
    """Tell whether two users may hold a node in these modes at once."""
    return other in COMPATIBLE[mode]


def meet(needs, other):
    """Tell whether a need of one list and a need of the other one are for one node and not compatible."""
    modes = {}
    for node, mode in other:
        modes.setdefault(node, []).append(mode)
    for node, mode in needs:
        if not all([compatible(mode, held) for held in modes.get(node, [])]):
            return True
    return False


def read_needs(book, table, road, numbers):
    """Return the needs of a reading of a table by a road that finds the rows of these numbers."""
    if book.read == "alone":
        return [(STORE, "x")]
    if book.read == "store":
        return [(STORE, "s")]
    return [(STORE, "is")] + _road_needs(book, table, road, numbers)


def _road_needs(book, table, road, numbers):
    """Return the needs of a reading below the store."""
    node = ("table", table)
    # Behind its name, the road by an index may tell the values that are looked up.
    way = road[:2]
    if road[0] == "summary":
        return [(node, "is")] + ([(way, "s")] if book.kept == "node" else [])
    by_index = road[0] == "index"
    if book.read == "table" or (book.read == "road" and not by_index):
        return [(node, "s")]
    if book.read == "road":
        return [(node, "is"), (way, "s")]
    found = [(("row", number), "s") for number in numbers]
    return [(node, "is")] + ([(way, "is")] if by_index else []) + found


def write_needs(book, table, number, nodes, keys):
    """Return the needs of a writing of the row of a number, which marks these nodes and has these keys."""
    node = ("table", table)
    if book.write == "store":
        return [(STORE, "x")]
    if book.write == "table":
        return [(STORE, "ix"), (node, "x")]
    marked = [(mark, "ix") for mark in nodes]
    checked = [(key, "x") for key in keys] if book.checks == "key" else []
    return [(STORE, "ix"), (node, "ix")] + marked + [(("row", number), "x")] + checked
