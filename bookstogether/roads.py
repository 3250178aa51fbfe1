"""How many looks the roads to rows can take, and claims about them."""

from bookstogether.closed import true_rows
from bookstogether.indexchoices import position_choices
from bookstogether.packing import fullest, most_looks
from bookstogether.rows import VALUES
from bookstogether.worlds import World

# More rows than any claim is about; only free rows can fill it.
LARGEST = 1000


def road_rows(column, condition, span=VALUES):
    """Return the rows that an index with this column and condition lists under these values, ascending."""
    return [row for row in true_rows(condition) if row[column] in span]


def best_road(world, table, roads, *, size):
    """Return the name of the first road whose rows can take the fewest looks, or the empty string."""
    looks = [most_looks(world, table, rows, size=size) for _, rows in roads]
    return roads[looks.index(min(looks))][0] if len(looks) > 0 else ""


def claim_gap(world, table, column, condition, most):
    """Return the first value under which more rows may stand together than are claimed, with one more, or None."""
    for value in VALUES:
        rows = fullest(world, table, road_rows(column, condition, (value,)), size=most + 1)
        if len(rows) > most:
            return (value, rows)
    return None


def least_claim(world, table, column, condition):
    """Return the least claim that an index keeps, or None."""
    roads = [road_rows(column, condition, (value,)) for value in VALUES]
    looks = [most_looks(world, table, rows, size=LARGEST) for rows in roads]
    return None if LARGEST in looks else max(looks)


def claim_rules(world, table, column, condition, most):
    """Return the shortest tuple of names of rules under which alone a claim is kept, or None."""
    rules = world.rules_of(table)
    for choice in position_choices(len(rules)):
        chosen = [rules[at] for at in choice]
        if claim_gap(World(world.tables, chosen), table, column, condition, most) is None:
            return tuple([rule[0] for rule in chosen])
    return None
