import unittest

from bookstogether.heaps import Heap
from bookstogether.lockbooks import LockBook
from bookstogether.lockdeeds import commute, statement_deeds
from bookstogether.lockmeets import deed_needs
from bookstogether.running import everyone, run_plainly
from bookstogether.worlds import World

from tests.samples import ALWAYS, NEVER, WORLD, chances, plain_clash, plain_group, plain_meet, plain_outcome
from tests.samples import random_heap, random_question, random_statement, random_world

# In WORLD, p gives every row of `a` its value at 0 as group, and q those with a 1 at 2 their value at 1.
BY_TABLE = ("table",)


def heap_of(*rows, table="a"):
    heap = Heap()
    for row in rows:
        heap.put(table, row)
    return heap


def read(*numbers, table="a"):
    return ("read", table, BY_TABLE, numbers)


def write(number, *keys, table="a"):
    return ("write", table, number, (), tuple(("key", *key) for key in keys))


class TestStatementDeeds(unittest.TestCase):
    def deeds(self, heap, *statement, world=WORLD):
        return statement_deeds(world, heap, statement)

    def test_questions(self):
        heap = heap_of((0, 0, 0), (1, 0, 1), (0, 1, 2))
        heap.put("b", (0, 0, 0))
        self.assertEqual(self.deeds(heap, "rows", "a", ("equal", 0, 0), ""), [read(0, 2)])
        self.assertEqual(self.deeds(heap, "count", "b", ALWAYS, "x"), [read(3, table="b")])
        self.assertEqual(self.deeds(heap, "sum", "a", NEVER, 0, ""), [read()])
        self.assertEqual(self.deeds(heap, "greatest", "a", ALWAYS, 0, ""), [read(0, 1, 2)])

    def test_a_condition_that_divides_by_0(self):
        heap = heap_of((1, 1, 0), (1, 0, 1))
        zero = ("quotient", 0, 1, 1)
        self.assertEqual(self.deeds(heap, "count", "a", zero, ""), [read()])
        self.assertEqual(self.deeds(heap, "change", "a", zero, 0, 2), [read()])
        self.assertEqual(self.deeds(heap, "remove", "a", zero), [read()])

    def test_put(self):
        heap = heap_of((0, 0, 0))
        self.assertEqual(self.deeds(heap, "put", "a", (2, 0, 1)), [write(1, ("p", 2), ("q", 0))])
        self.assertEqual(self.deeds(heap, "put", "a", (None, 0, 0)), [write(1)])
        # It writes even if it will be refused.
        self.assertEqual(self.deeds(heap, "put", "a", (0, 0, 0)), [write(1, ("p", 0))])

    def test_change_and_remove(self):
        heap = heap_of((2, 0, 0), (1, 2, 1), (0, 1, 1))
        deeds = [read(1, 2), write(1, ("p", 1), ("p", 1), ("q", 2)), write(2, ("p", 0), ("p", 0), ("q", 1))]
        self.assertEqual(self.deeds(heap, "change", "a", ("equal", 2, 1), 2, 0), deeds)
        deeds = [read(0, 2), write(0, ("p", 2), ("p", 2)), write(2, ("p", 0), ("p", 0), ("q", 1), ("q", 1))]
        self.assertEqual(self.deeds(heap, "change", "a", ("below", 1, 2), 1, 1), deeds)
        deeds = [read(1), write(1, ("p", 1), ("q", 2))]
        self.assertEqual(self.deeds(heap, "remove", "a", ("equal", 0, 1)), deeds)
        self.assertEqual(self.deeds(heap, "remove", "a", NEVER), [read()])

    def test_equal_keys_stand_twice(self):
        heap = heap_of((0, 1, 1))
        deeds = [read(0), write(0, ("p", 0), ("p", 0), ("q", 1), ("q", 1))]
        self.assertEqual(self.deeds(heap, "change", "a", ALWAYS, 1, 1), deeds)

    def test_keys_of_the_row_before_come_first(self):
        heap = heap_of((0, 1, 1))
        deeds = [read(0), write(0, ("p", 0), ("p", 2), ("q", 1), ("q", 1))]
        self.assertEqual(self.deeds(heap, "change", "a", ALWAYS, 0, 2), deeds)
        deeds = [read(0), write(0, ("p", 0), ("p", 0), ("q", 1), ("q", 0))]
        self.assertEqual(self.deeds(heap, "change", "a", ALWAYS, 1, 0), deeds)

    def test_upserts(self):
        heap = heap_of((0, 1, 1), (1, 2, 1))

        def deeds(row, names, *sets):
            return self.deeds(heap, "upsert", "a", row, names, sets)

        self.assertEqual(deeds((2, 0, 1), ("q", "p")), [read(), read(), write(2, ("p", 2), ("q", 0))])
        # One row, found by both rules.
        found = [read(0), read(0), write(0, ("p", 0), ("p", 2), ("q", 1), ("q", 1))]
        self.assertEqual(deeds((0, 1, 1), ("p", "q"), (0, 2)), found)
        # Two rows: nothing is written.
        self.assertEqual(deeds((0, 2, 1), ("q", "p"), (0, 2)), [read(1), read(0)])
        # A row that stays equal is written, too.
        self.assertEqual(deeds((0, 0, 0), ("p",)), [read(0), write(0, ("p", 0), ("p", 0), ("q", 1), ("q", 1))])
        self.assertEqual(deeds((0, 0, 0), ()), [write(2, ("p", 0))])

    def test_two_rows_by_one_rule(self):
        world = World(("a", "b"), [("p", "a", 0, ALWAYS)])
        heap = heap_of((0, 1, 1), (0, 2, 1))
        statement = ("upsert", "a", (0, 0, 0), ("p",), ())
        self.assertEqual(statement_deeds(world, heap, statement), [read(0, 1)])

    def test_numbers_ascend(self):
        heap = Heap()
        heap[5] = ("a", (0, 0, 0))
        heap[2] = ("a", (2, 2, 2))
        self.assertEqual(self.deeds(heap, "count", "a", ALWAYS, ""), [read(2, 5)])
        deeds = self.deeds(heap, "remove", "a", ALWAYS)
        self.assertEqual([deed[:3] for deed in deeds[1:]], [("write", "a", 2), ("write", "a", 5)])
        self.assertEqual(self.deeds(heap, "put", "a", (1, 0, 0)), [write(6, ("p", 1))])

    def test_the_heap_stays_as_it_is(self):
        heap = heap_of((0, 1, 1), (1, 2, 1))
        for statement in (("put", "a", (2, 0, 0)), ("remove", "a", ALWAYS), ("upsert", "a", (2, 0, 0), (), ())):
            statement_deeds(WORLD, heap, statement).clear()
        self.assertEqual((heap.pairs("a"), heap.fresh), ([(0, (0, 1, 1)), (1, (1, 2, 1))], 2))

    def test_against_plain_searches(self):
        for chance in chances(120, "statement deeds"):
            world = random_world(chance)
            heap = random_heap(chance, 8)
            statement = random_statement(chance, world)
            table = statement[1]
            deeds = statement_deeds(world, heap, statement)
            if statement[0] == "upsert":
                found = [
                    tuple(at for at, row in heap.pairs(table) if plain_clash(world.rule(name), statement[2], row))
                    for name in statement[3]
                ]
                self.assertEqual([deed[3] for deed in deeds if deed[0] == "read"], found)
                hit = {number for numbers in found for number in numbers}
                expected = {0: [heap.fresh], 1: list(hit)}.get(len(hit), [])
            elif statement[0] == "put":
                expected = [heap.fresh]
            else:
                told = {at: plain_outcome(statement[2], row) for at, row in heap.pairs(table)}
                hit = [] if "error" in told.values() else [at for at in told if told[at] == "true"]
                self.assertEqual(deeds[0], ("read", table, BY_TABLE, tuple(hit)))
                expected = [] if statement[0] == "count" else hit
            writings = [deed for deed in deeds if deed[0] == "write"]
            self.assertEqual([deed[2] for deed in writings], expected)
            for _, where, number, nodes, keys in writings:
                self.assertEqual((where, nodes), (table, ()))
                self.keys(world, heap, statement, number, keys)

    def keys(self, world, heap, statement, number, keys):
        """The keys are those of the row before and of the row that the statement alone would store."""
        table = statement[1]
        old = heap[number][1] if number in heap else None
        bare = Heap()
        if old is not None:
            bare[0] = (table, old)
        _, writes = run_plainly(World(world.tables), bare, self.unnamed(statement, old), everyone)
        new = writes[0][3] if writes else old
        expected = []
        for rule in world.rules_of(table):
            groups = [plain_group(rule, row) for row in (old, new) if row is not None]
            expected += [("key", rule[0], value) for value in groups if value is not None]
        self.assertEqual(list(keys), expected)

    def unnamed(self, statement, old):
        """The statement in a world without rules, where an upsert finds nothing by itself."""
        if statement[0] != "upsert":
            return statement
        _, table, asked, _, sets = statement
        row = list(asked if old is None else old)
        for column, source in sets if old is not None else ():
            row[column] = asked[column] if source == "new" else source
        return ("put", table, asked) if old is None else ("upsert", table, tuple(row), (), ())


class TestCommute(unittest.TestCase):
    def test_puts(self):
        heap = Heap()
        first, second = ("put", "a", (0, 0, 0)), ("put", "a", (1, 0, 0))
        self.assertIs(commute(WORLD, heap, first, second), True)
        # They clash by p, so the second one is refused, whichever it is.
        self.assertIs(commute(WORLD, heap, first, ("put", "a", (0, 1, 0))), False)
        self.assertIs(commute(WORLD, heap, ("put", "b", (0, 0, None)), ("put", "b", (0, 0, None))), True)

    def test_a_question_and_a_writing(self):
        heap = heap_of((0, 0, 0))
        self.assertIs(commute(WORLD, heap, ("count", "a", ALWAYS, ""), ("put", "a", (1, 0, 0))), False)
        self.assertIs(commute(WORLD, heap, ("count", "a", ("equal", 0, 0), ""), ("put", "a", (1, 0, 0))), True)
        self.assertIs(commute(WORLD, heap, ("count", "a", ALWAYS, ""), ("put", "b", (1, 0, 0))), True)
        self.assertIs(commute(WORLD, heap, ("count", "a", ALWAYS, ""), ("change", "a", ALWAYS, 0, 2)), True)

    def test_equal_tells_with_other_rows(self):
        heap = heap_of((0, 0, 0))
        first, second = ("change", "a", ALWAYS, 1, 1), ("change", "a", ALWAYS, 1, 2)
        self.assertIs(commute(WORLD, heap, first, second), False)
        self.assertIs(commute(WORLD, heap, first, ("change", "a", ALWAYS, 2, 2)), True)
        self.assertIs(commute(WORLD, heap, first, first), True)

    def test_equal_rows_with_other_tells(self):
        heap = heap_of((0, 0, 0))
        remove = ("remove", "a", ALWAYS)
        self.assertIs(commute(WORLD, heap, remove, remove), False)
        self.assertIs(commute(WORLD, Heap(), remove, remove), True)

    def test_each_statement_keeps_its_own_tell(self):
        # In both orders the first tell is ("removed", 1) and the second one ("removed", 0), but not of the same one.
        heap = heap_of((0, 0, 0))
        self.assertIs(commute(WORLD, heap, ("remove", "a", ("equal", 0, 0)), ("remove", "a", ("equal", 1, 0))), False)

    def test_the_heap_stays_as_it_is(self):
        heap = heap_of((0, 0, 0))
        commute(WORLD, heap, ("put", "a", (1, 0, 0)), ("remove", "a", ALWAYS))
        self.assertEqual((heap.pairs("a"), heap.fresh), ([(0, (0, 0, 0))], 1))

    def test_deeds_that_do_not_meet_commute(self):
        books = [LockBook(), LockBook(read="store"), LockBook(read="table", write="table")]
        books += [LockBook(read=read, write="row") for read in ("table", "road")]
        books += [LockBook(read=read, write="table", checks="none") for read in ("road", "rows")]
        apart, together = 0, 0
        for chance in chances(700, "commute"):
            world = random_world(chance)
            heap = Heap()
            for _ in range(3):
                run_plainly(world, heap, random_statement(chance, world), everyone)
            first, second = (
                random_statement(chance, world) if chance.randrange(3) else random_question(chance, world) for _ in "ab"
            )
            told = commute(world, heap, first, second)
            behind = heap.copy()
            run_plainly(world, behind, first, everyone)
            one, two = statement_deeds(world, heap, first), statement_deeds(world, behind, second)
            for book in books:
                needs = [[deed_needs(book, deed) for deed in deeds] for deeds in (one, two)]
                if not any(plain_meet(own, other) for own in needs[0] for other in needs[1]):
                    self.assertTrue(told, (world.rules, heap.rows, first, second))
                    apart += 1
            together += not told
        self.assertGreater(apart, 300)
        self.assertGreater(together, 50)
