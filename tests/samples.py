"""Worlds, conditions and rows for the tests."""

import random

from bookstogether.heaps import Heap
from bookstogether.rows import VALUES
from bookstogether.worlds import World

ALWAYS = ("always",)
NEVER = ("not", ("always",))

ROWS = [(a, b, c) for a in VALUES for b in VALUES for c in VALUES]

WORLD = World(
    ["a", "b"],
    [
        ("p", "a", 0, ALWAYS),
        ("q", "a", 1, ("equal", 2, 1)),
        ("r", "b", 2, ("not", ("unknown", 0))),
    ],
)


def deep(levels):
    """A condition of exactly so many levels."""
    condition = ("equal", 0, 1)
    for at in range(levels - 1):
        condition = (("not", condition), ("and", ALWAYS, condition), ("or", condition, ALWAYS))[at % 3]
    return condition


def random_condition(chance, levels, quotients=False):
    """A condition of at most so many levels."""
    words = ["always", "equal", "below", "unknown"] + ["quotient"] * quotients
    if levels > 1:
        words += ["not", "and", "or"] * 2
    word = chance.choice(words)
    column = chance.randrange(3)
    if word == "always":
        return (word,)
    if word == "unknown":
        return (word, column)
    if word == "quotient":
        return (word, column, chance.randrange(3), chance.randrange(3))
    if word in ("equal", "below"):
        return (word, column, chance.randrange(3))
    parts = [random_condition(chance, levels - 1, quotients) for _ in range(1 if word == "not" else 2)]
    return (word, *parts)


def random_row(chance):
    return tuple(chance.choice(VALUES) for _ in range(3))


def random_world(chance):
    """A world of two tables with up to two rules on each."""
    rules = []
    for table in ("a", "b"):
        for at in range(chance.randrange(3)):
            condition = random_condition(chance, 3)
            rules.append((f"{table}{'pq'[at]}", table, chance.randrange(3), condition))
    chance.shuffle(rules)
    return World(("a", "b"), rules)


def random_statement(chance, world):
    table = chance.choice(("a", "b"))
    word = chance.choice(("put", "put", "change", "remove", "upsert", "upsert", "count"))
    condition = random_condition(chance, 3, quotients=True)
    if word == "put":
        return (word, table, random_row(chance))
    if word == "change":
        return (word, table, condition, chance.randrange(3), chance.choice((None, 0, 1, 2)))
    if word == "remove":
        return (word, table, ("and", condition, ("equal", chance.randrange(3), chance.randrange(3))))
    if word == "count":
        return (word, table, condition, "")
    names = [rule[0] for rule in world.rules if rule[1] == table]
    columns = chance.sample(range(3), chance.randrange(4))
    sets = tuple((column, chance.choice((None, 0, 1, 2, "new"))) for column in columns)
    return (word, table, random_row(chance), tuple(chance.sample(names, chance.randrange(len(names) + 1))), sets)


def chances(count, seed):
    """Random sources, the same ones in each run of the tests."""
    return [random.Random(f"{seed} {at}") for at in range(count)]


def plain_truth(condition, row):
    """The truth of a condition as 0, 1 or 2, or "error"; told in another way than the program does."""
    word = condition[0]
    if word == "always":
        return 2
    if word == "unknown":
        return 2 if row[condition[1]] is None else 0
    if word in ("equal", "below"):
        value = row[condition[1]]
        if value is None:
            return 1
        return 2 * int(value == condition[2] if word == "equal" else value < condition[2])
    if word == "quotient":
        top, low = row[condition[1]], row[condition[2]]
        if low == 0:
            return "error"
        if top is None or low is None:
            return 1
        return 2 * int(int(top / low) == condition[3])
    left = plain_truth(condition[1], row)
    if left == "error":
        return "error"
    if word == "not":
        return 2 - left
    if left == (0 if word == "and" else 2):
        return left
    right = plain_truth(condition[2], row)
    if right == "error":
        return "error"
    return min(left, right) if word == "and" else max(left, right)


def plain_group(rule, row):
    """The group of a row under a rule, told without the program."""
    return row[rule[2]] if plain_truth(rule[3], row) == 2 else None


def plain_clash(rule, row, other):
    return plain_group(rule, row) is not None and plain_group(rule, row) == plain_group(rule, other)


def plain_outcome(condition, row):
    """The outcome of a condition for a row, told without the program."""
    told = plain_truth(condition, row)
    return told if told == "error" else ("false", "unknown", "true")[told]


def plain_shown(rules, user, table, row):
    """Whether hiding rules show a row of a table to a user, told without the program."""
    return all(plain_truth(part, row) == 2 for who, where, part in rules if (who, where) == (user, table))


TOGETHER = {("s", "s"), ("s", "is"), ("is", "s"), ("is", "is"), ("is", "ix"), ("ix", "is"), ("ix", "ix")}


def plain_meet(needs, other):
    """Whether two lists of needs meet, told by all pairs."""
    return any(node == beside and (mode, held) not in TOGETHER for node, mode in needs for beside, held in other)


def random_heap(chance, count, tables=("a", "b")):
    """A heap of at most so many rows, with numbers left out between them; rows may clash."""
    heap = Heap()
    for _ in range(count):
        number = heap.put(chance.choice(tables), random_row(chance))
        if chance.randrange(4) == 0:
            heap.write(heap[number][0], number, None)
    return heap


def random_question(chance, world, levels=3):
    """A question of any kind about a table of the world."""
    word = chance.choice(("rows", "count", "sum", "greatest"))
    columns = (chance.randrange(3),) if word in ("sum", "greatest") else ()
    condition = random_condition(chance, levels, quotients=True)
    return (word, chance.choice(world.tables), condition, *columns, "")


def random_rules(chance, users=(0, 1, 2), tables=("a", "b")):
    """Hiding rules, of which no two are for one user and table."""
    places = [(user, table) for user in users for table in tables]
    chosen = chance.sample(places, chance.randrange(len(places) + 1))
    return [(user, table, random_condition(chance, 3)) for user, table in chosen]


def numbered(*lines, start=1):
    """Lines with their numbers, as books read them."""
    return list(enumerate(lines, start=start))
