"""How many rows may stand together under the rules of a table."""

from bookstogether.indexchoices import position_choices
from bookstogether.rows import VALUES, sorted_rows
from bookstogether.worlds import group


def row_groups(world, table, row):
    """Return the pairs of a rule's name and the row's group under it, for the rules that give it one."""
    pairs = [(rule[0], group(rule, row)) for rule in world.rules_of(table)]
    return tuple([pair for pair in pairs if pair[1] is not None])


def fullest(world, table, rows, *, size):
    """Return a longest list of at most so many of the rows that may stand together, ascending."""
    kinds = {}
    for row in rows:
        pairs = row_groups(world, table, row)
        if len(pairs) == 0:
            return [row] * size
        kinds.setdefault(pairs, row)
    return sorted_rows(_packed(kinds)[:size])


def _packed(kinds):
    """Return a longest list of rows without a common pair, for a dict from the pairs of rows to such a row."""
    # For the pairs that are used, which are few, a longest list of rows that use them.
    longest = {(): []}
    for pairs, row in kinds.items():
        for used, chosen in list(longest.items()):
            both = tuple(sorted(used + pairs))
            if len(set(both)) == len(both) and len(chosen) >= len(longest.get(both, [])):
                longest[both] = chosen + [row]
    return max(list(longest.values()), key=len)


def most_looks(world, table, rows, *, size):
    """Return the length of a longest list of at most so many of the rows that may stand together."""
    return len(fullest(world, table, rows, size=size))


def guard(world, table, rows):
    """Return a shortest tuple of pairs of which each of the rows has at least one, or None."""
    wanted = [row_groups(world, table, row) for row in rows]
    pairs = [(rule[0], value) for rule in world.rules_of(table) for value in VALUES if value is not None]
    for choice in position_choices(len(pairs)):
        chosen = [pairs[at] for at in choice]
        if all([any([pair in chosen for pair in own]) for own in wanted]):
            return tuple(chosen)
    return None
