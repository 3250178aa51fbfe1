import unittest

from bookstogether.entries import Entries
from bookstogether.heaps import Heap
from bookstogether.indexbooks import Index, IndexBook
from bookstogether.indexjudge import judge_indexes, rules_gap
from bookstogether.worlds import World

from tests.samples import ALWAYS, NEVER, ROWS, WORLD, chances, plain_clash, plain_truth, random_condition, random_world

BARE = World(("a", "b"))
VALUES = (None, 0, 1, 2)


def held(index, row):
    return plain_truth(index.condition, row) == 2


def searched_rules_gap(world, book):
    """The first gap, found by a search over all pairs of rows."""
    if not book.indexes:
        return None
    for table in world.tables:
        rules = [rule for rule in world.rules if rule[1] == table]
        holders = [[index for index in book.indexes if index.rule == rule[0]][0].as_rule for rule in rules]
        for first in ROWS:
            for second in ROWS:
                clashing = [at for at, rule in enumerate(rules) if plain_clash(rule, first, second)]
                indexed = [at for at, rule in enumerate(holders) if plain_clash(rule, first, second)]
                if clashing[:1] != indexed[:1]:
                    return (table, first, second)
    return None


def searched_findings(world, book):
    """All findings of a book, found by searches over all rows and pairs."""
    found = {"writes": [], "serves": [], "errors": [], "rules": []}
    for index in book.indexes:
        if book.writes == "column":
            for before in ROWS:
                for after in ROWS:
                    differing = [at for at in range(3) if before[at] != after[at]]
                    if len(differing) == 1 and differing != [index.column] and held(index, after):
                        if not held(index, before):
                            found["writes"].append(("writes", index.name, before, after))
        if book.writes == "put":
            for after in ROWS:
                if held(index, after):
                    before = list(after)
                    before[index.column] = 0 if after[index.column] is None else None
                    found["writes"].append(("writes", index.name, tuple(before), after))
        if book.serves == "possible":
            for row in ROWS:
                if plain_truth(index.condition, row) == 1:
                    found["serves"].append(("serves", index.name, row))
        if book.serves == "true":
            found["errors"].append(("errors", index.name))
    gap = searched_rules_gap(world, book)
    if gap is not None:
        found["rules"].append(("rules", *gap))
    return tuple(many[0] for many in found.values() if many)


def random_book(chance, world, writes, serves):
    """A book that fits the world, the indexes of whose rules may hold other rows than have a group."""
    indexes = []
    for name, table, column, condition in world.rules:
        if chance.randrange(3) == 0:
            condition = ("or", condition, random_condition(chance, 2))
        elif chance.randrange(3) == 0:
            column = chance.randrange(3)
        indexes.append(Index("i" + name, table, column, condition, name))
    for at in range(chance.randrange(3)):
        condition = random_condition(chance, 3)
        indexes.append(Index("jk"[at], chance.choice(world.tables), chance.randrange(3), condition))
    chance.shuffle(indexes)
    return IndexBook(*indexes, writes=writes, serves=serves)


class TestRulesGap(unittest.TestCase):
    def test_no_gap(self):
        self.assertIsNone(rules_gap(WORLD, IndexBook()))
        self.assertIsNone(rules_gap(WORLD, IndexBook.of_world(WORLD)))
        self.assertIsNone(rules_gap(BARE, IndexBook(Index("i", "a", 0, ALWAYS))))

    def test_a_row_that_the_index_misses(self):
        world = World(("a", "b"), [("p", "b", 1, ALWAYS)])
        book = IndexBook(Index("i", "b", 1, ("not", ("equal", 1, 0)), "p"))
        self.assertEqual(rules_gap(world, book), ("b", (None, 0, None), (None, 0, None)))

    def test_a_row_too_many(self):
        world = World(("a", "b"), [("p", "a", 1, ("equal", 0, 0))])
        book = IndexBook(Index("i", "a", 1, ALWAYS, "p"))
        self.assertEqual(rules_gap(world, book), ("a", (None, 0, None), (None, 0, None)))

    def test_another_first_rule(self):
        # The rows clash by p first, but in the indexes by q, which is held rightly.
        world = World(("a", "b"), [("p", "a", 0, ("equal", 2, 1)), ("q", "a", 1, ALWAYS)])
        book = IndexBook(Index("i", "a", 1, ALWAYS, "q"), Index("j", "a", 0, NEVER, "p"))
        self.assertEqual(rules_gap(world, book), ("a", (0, None, 1), (0, None, 1)))
        world = World(("a", "b"), [("q", "a", 1, ALWAYS), ("p", "a", 1, ("equal", 2, 1))])
        self.assertIsNone(rules_gap(world, book))

    def test_the_first_table_of_the_world(self):
        rules = [("p", "b", 0, ALWAYS), ("q", "a", 0, ALWAYS)]
        book = IndexBook(Index("i", "b", 0, NEVER, "p"), Index("j", "a", 0, NEVER, "q"))
        self.assertEqual(rules_gap(World(("a", "b"), rules), book)[0], "a")
        self.assertEqual(rules_gap(World(("b", "a"), rules), book)[0], "b")

    def test_against_a_plain_search(self):
        gaps = 0
        for chance in chances(25, "rules"):
            world = random_world(chance)
            book = random_book(chance, world, "both", "implied")
            expected = searched_rules_gap(world, book)
            gaps += expected is not None
            self.assertEqual(rules_gap(world, book), expected)
        self.assertTrue(5 <= gaps <= 22)


class TestJudgeIndexes(unittest.TestCase):
    def findings(self, *indexes, **options):
        return judge_indexes(BARE, IndexBook(*indexes, **options))

    def test_right_books(self):
        self.assertEqual(judge_indexes(WORLD, IndexBook.of_world(WORLD)), ())
        for writes in ("both", "column", "put"):
            for serves in ("implied", "possible", "true"):
                self.assertEqual(self.findings(writes=writes, serves=serves), ())

    def test_column(self):
        index = Index("i", "a", 1, ("equal", 0, 0))
        finding = ("writes", "i", (None, None, None), (0, None, None))
        self.assertEqual(self.findings(index, writes="column"), (finding,))
        # What an index on its own column holds changes with the column alone.
        for condition in (ALWAYS, NEVER, ("not", ("below", 1, 2))):
            self.assertEqual(self.findings(Index("i", "a", 1, condition), writes="column"), ())

    def test_column_does_not_see_changes_of_two_columns(self):
        index = Index("i", "a", 1, ("not", ("and", ("unknown", 0), ("unknown", 2))))
        finding = ("writes", "i", (None, None, None), (None, None, 0))
        self.assertEqual(self.findings(index, writes="column"), (finding,))
        index = Index("i", "a", 0, ("and", ("equal", 0, 0), ("equal", 2, 1)))
        finding = ("writes", "i", (0, None, None), (0, None, 1))
        self.assertEqual(self.findings(index, writes="column"), (finding,))

    def test_put(self):
        index = Index("i", "a", 1, ("equal", 1, 0))
        self.assertEqual(self.findings(index, writes="put"), (("writes", "i", (None, None, None), (None, 0, None)),))
        index = Index("i", "a", 1, ("unknown", 1))
        self.assertEqual(self.findings(index, writes="put"), (("writes", "i", (None, 0, None), (None, None, None)),))
        self.assertEqual(self.findings(Index("i", "a", 1, NEVER), writes="put"), ())

    def test_serves(self):
        index = Index("i", "a", 1, ("and", ("below", 0, 2), ("not", ("unknown", 0))))
        self.assertEqual(self.findings(index, serves="possible"), ())
        index = Index("i", "a", 1, ("and", ("equal", 0, 0), ("below", 2, 2)))
        self.assertEqual(self.findings(index, serves="possible"), (("serves", "i", (None, None, None)),))
        index = Index("i", "a", 1, ("and", ("not", ("unknown", 0)), ("below", 2, 2)))
        self.assertEqual(self.findings(index, serves="possible"), (("serves", "i", (0, None, None)),))

    def test_errors(self):
        self.assertEqual(self.findings(Index("i", "a", 1, NEVER), serves="true"), (("errors", "i"),))
        indexes = [Index("j", "a", 1, NEVER), Index("i", "a", 1, ALWAYS)]
        self.assertEqual(self.findings(*indexes, serves="true"), (("errors", "j"),))

    def test_the_first_index_with_a_finding(self):
        right, second = Index("i", "a", 1, NEVER), Index("k", "a", 1, ALWAYS)
        first = Index("j", "a", 1, ("equal", 0, 2))
        self.assertEqual(self.findings(right, second, first, writes="column")[0][1], "j")
        self.assertEqual(self.findings(right, second, first, writes="put")[0][1], "k")
        self.assertEqual(self.findings(right, second, first, serves="possible")[0][1], "j")

    def test_the_order_of_the_findings(self):
        world = World(("a", "b"), [("p", "a", 0, ALWAYS)])
        index = Index("i", "a", 0, ("equal", 1, 0), "p")
        gap = ("rules", "a", (0, None, None), (0, None, None))
        found = judge_indexes(world, IndexBook(index, writes="put", serves="possible"))
        serves = ("serves", "i", (None, None, None))
        self.assertEqual(found, (("writes", "i", (0, 0, None), (None, 0, None)), serves, gap))
        found = judge_indexes(world, IndexBook(index, writes="column", serves="true"))
        self.assertEqual(found, (("writes", "i", (None, None, None), (None, 0, None)), ("errors", "i"), gap))

    def test_against_plain_searches(self):
        seen = set()
        for chance in chances(40, "judge"):
            world = random_world(chance)
            writes, serves = chance.choice(("both", "column", "put")), chance.choice(("possible", "true"))
            book = random_book(chance, world, writes, serves)
            expected = searched_findings(world, book)
            seen |= {finding[0] for finding in expected}
            self.assertEqual(judge_indexes(world, book), expected)
        self.assertEqual(seen, {"writes", "serves", "errors", "rules"})

    def test_writes_are_told_exactly_if_a_change_leaves_wrong_entries(self):
        for chance in chances(12, "stale"):
            index = Index("i", "a", chance.randrange(3), random_condition(chance, 3))
            for writes in ("both", "column", "put"):
                book = IndexBook(index, writes=writes)
                told = [finding for finding in judge_indexes(BARE, book) if finding[0] == "writes"]
                self.assertEqual(bool(told), any(self.stale(book, old, new) for old in ROWS[::5] for new in ROWS))
                for _, _, before, after in told:
                    self.assertTrue(self.stale(book, before, after))

    def stale(self, book, old, new):
        """Whether a change leaves other entries than are due, next to a step of the change over fewer columns."""
        heap = Heap()
        heap.put("a", old)
        entries = Entries(book)
        entries.fill(heap)
        heap.write("a", 0, new)
        entries.write("a", 0, old, new)
        due = Entries(book)
        due.fill(heap)
        return entries.listed("i") != due.listed("i")
