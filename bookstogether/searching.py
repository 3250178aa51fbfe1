"""How an upsert searches for the rows that its row clashes with."""

from bookstogether.shelves import BY_TABLE
from bookstogether.upserting import matched
from bookstogether.worlds import group


def _search_road(shelf, rule, asked):
    """Return the road by which an upsert of the asked row searches for a rule."""
    name, table = rule[:2]
    arbiter = shelf.books.upserts.arbiter(name)
    for index in shelf.books.indexes.of_table(table):
        if index.name == arbiter:
            value = asked[index.column]
            # Without a group there is nothing to look for, and an unknown value is looked up nowhere.
            none = group(rule, asked) is None or value is None
            return ("index", arbiter, () if none else (value,))
    return BY_TABLE


def search(shelf, user, rule, asked):
    """Return the road of the search for a rule, and the pairs of a number and a row that it finds."""
    table = rule[1]
    road = _search_road(shelf, rule, asked)
    pairs = shelf.candidates(table, road)
    if shelf.books.upserts.sees == "shown":
        pairs = [pair for pair in pairs if shelf.books.hiding.sight(user, table, pair[1])]
    return (road, matched(shelf.books.upserts, rule, asked, pairs, by_index=road[0] == "index"))
