import unittest

from bookstogether.heaps import Heap
from bookstogether.rows import row_key
from bookstogether.running import everyone, run_plainly
from bookstogether.worlds import World

from tests.samples import ALWAYS, NEVER, chances, plain_clash, plain_truth, random_condition, random_statement
from tests.samples import random_world

# Rule p groups column 0, rule q column 1, both for all rows of a.
WORLD = World(["a", "b"], [("p", "a", 0, ALWAYS), ("q", "a", 1, ALWAYS)])
HIDDEN = ("refused", "hidden")


def heap_of(*rows, table="a"):
    heap = Heap()
    for row in rows:
        heap.put(table, row)
    return heap


def state(heap):
    return ({number: heap[number] for number in heap}, heap.fresh)


def but(*hidden):
    """Somebody who does not see these rows."""
    return lambda table, row: row not in hidden


class Case(unittest.TestCase):
    def runs(self, heap, statement, tell, writes, sees=everyone, world=WORLD):
        found = run_plainly(world, heap, statement, sees)
        self.assertIsInstance(found, tuple)
        self.assertEqual(found, (tell, writes))

    def refuses(self, heap, statement, tell, sees=everyone, world=WORLD):
        before = state(heap)
        self.runs(heap, statement, tell, [], sees, world)
        self.assertEqual(state(heap), before)


class TestQuestions(Case):
    def test_everyone(self):
        self.assertIs(everyone("a", (0, 0, 0)), True)

    def test_questions(self):
        heap = heap_of((2, 0, 2), (0, 1, None), (None, 2, 1))
        heap.put("b", (0, 0, 0))
        before = state(heap)
        known = ("not", ("unknown", 0))
        self.runs(heap, ("rows", "a", known, ""), ("rows", ((0, 1, None), (2, 0, 2))), [])
        self.runs(heap, ("count", "a", ALWAYS, "x"), ("count", 3), [])
        self.runs(heap, ("sum", "a", ALWAYS, 2, ""), ("sum", 3), [])
        self.runs(heap, ("greatest", "a", known, 2, ""), ("greatest", 2), [])
        self.runs(heap, ("greatest", "a", ("equal", 2, 0), 2, ""), ("greatest", None), [])
        self.assertEqual(state(heap), before)

    def test_rows_that_are_not_seen_are_not_looked_at(self):
        heap = heap_of((0, 0, 2), (1, 1, 1))
        question = ("count", "a", ("quotient", 2, 1, 1), "")
        self.refuses(heap, question, ("refused", "zero"))
        self.runs(heap, question, ("count", 1), [], but((0, 0, 2)))
        self.runs(heap, ("count", "a", ALWAYS, ""), ("count", 1), [], but((0, 0, 2)))

    def test_sees_is_called_with_the_table_and_a_row(self):
        asked = []

        def sees(table, row):
            asked.append((table, row))
            return True

        run_plainly(WORLD, heap_of((0, 0, 0), table="b"), ("count", "b", ALWAYS, ""), sees)
        self.assertEqual(set(asked), {("b", (0, 0, 0))})


class TestPut(Case):
    def test_put(self):
        heap = heap_of((0, 0, 0))
        self.runs(heap, ("put", "a", (1, 1, 0)), ("put", (1, 1, 0)), [("a", 1, None, (1, 1, 0))])
        self.assertEqual((heap.pairs("a"), heap.fresh), ([(0, (0, 0, 0)), (1, (1, 1, 0))], 2))

    def test_put_takes_a_fresh_number(self):
        heap = heap_of((0, 0, 0))
        heap.write("a", 0, None)
        self.runs(heap, ("put", "a", (0, 0, 0)), ("put", (0, 0, 0)), [("a", 1, None, (0, 0, 0))])

    def test_duplicates(self):
        heap = heap_of((0, 0, 0), (1, 1, 1))
        self.refuses(heap, ("put", "a", (0, 2, 2)), ("refused", "duplicate", "p"))
        self.refuses(heap, ("put", "a", (2, 0, 2)), ("refused", "duplicate", "q"))
        self.refuses(heap, ("put", "a", (1, 0, 2)), ("refused", "duplicate", "p"))
        self.runs(heap, ("put", "b", (0, 0, 0)), ("put", (0, 0, 0)), [("b", 2, None, (0, 0, 0))])
        self.runs(heap, ("put", "a", (None, None, 0)), ("put", (None, None, 0)), [("a", 3, None, (None, None, 0))])

    def test_only_seen_rows_clash(self):
        heap = heap_of((0, 0, 0), (1, 1, 1))
        self.runs(heap, ("put", "a", (0, 2, 2)), ("put", (0, 2, 2)), [("a", 2, None, (0, 2, 2))], but((0, 0, 0)))

    def test_hidden_comes_before_duplicate(self):
        self.refuses(heap_of((0, 0, 0)), ("put", "a", (0, 2, 2)), HIDDEN, but((0, 2, 2)))


class TestChange(Case):
    def test_change(self):
        heap = heap_of((0, None, 1), (1, None, 0), (2, None, 1))
        writes = [("a", 0, (0, None, 1), (0, None, 2)), ("a", 2, (2, None, 1), (2, None, 2))]
        self.runs(heap, ("change", "a", ("equal", 2, 1), 2, 2), ("changed", 2), writes)
        self.assertEqual(heap.pairs("a"), [(0, (0, None, 2)), (1, (1, None, 0)), (2, (2, None, 2))])
        self.runs(heap, ("change", "a", NEVER, 2, 2), ("changed", 0), [])

    def test_the_row_itself_is_no_other_row(self):
        heap = heap_of((0, 0, 0))
        self.runs(heap, ("change", "a", ALWAYS, 2, 1), ("changed", 1), [("a", 0, (0, 0, 0), (0, 0, 1))])

    def test_an_equal_row_is_stored_too(self):
        heap = heap_of((0, 0, 0))
        self.runs(heap, ("change", "a", ALWAYS, 2, 0), ("changed", 1), [("a", 0, (0, 0, 0), (0, 0, 0))])

    def test_order_of_the_writes(self):
        heap = heap_of((None, None, 2), (None, None, 0), (None, None, 2), (None, None, None), table="b")
        statement = ("change", "b", ALWAYS, 0, 1)
        _, writes = run_plainly(WORLD, heap, statement, everyone)
        self.assertEqual([write[1] for write in writes], [3, 1, 0, 2])
        self.assertEqual([write[3] for write in writes], [(1, None, None), (1, None, 0)] + [(1, None, 2)] * 2)

    def test_checked_against_the_rows_at_that_moment(self):
        # The first row moves out of the way of the second one.
        world = World(("a", "b"), [("p", "a", 0, ("equal", 2, 1))])
        heap = heap_of((0, 1, 0), (0, 0, 1))
        writes = [("a", 1, (0, 0, 1), (0, 0, None)), ("a", 0, (0, 1, 0), (0, 1, None))]
        self.runs(heap, ("change", "a", ALWAYS, 2, None), ("changed", 2), writes, world=world)

    def test_refused_behind_several_writes(self):
        heap = heap_of((2, None, 0), (1, None, 0), (0, None, 0))
        heap.write("a", 2, None)
        heap.put("a", (0, None, 0))
        # All three become (_, 1, 0) one behind another; the second one is a duplicate.
        self.refuses(heap, ("change", "a", ALWAYS, 1, 1), ("refused", "duplicate", "q"))
        # The last one would be hidden.
        self.refuses(heap, ("change", "a", ALWAYS, 2, 1), HIDDEN, but((2, None, 1)))

    def test_zero_comes_before_the_other_refusals(self):
        heap = heap_of((0, 1, 0), (1, 0, 1))
        statement = ("change", "a", ("quotient", 0, 1, 0), 2, 2)
        self.refuses(heap, statement, ("refused", "zero"), but((0, 1, 2)))
        self.refuses(heap, statement, HIDDEN, but((0, 1, 2), (1, 0, 1)))

    def test_hidden_comes_before_duplicate(self):
        heap = heap_of((0, 0, 0), (1, 1, 1))
        self.refuses(heap, ("change", "a", ("equal", 0, 0), 0, 1), HIDDEN, but((1, 0, 0)))
        self.refuses(heap, ("change", "a", ("equal", 0, 0), 0, 1), ("refused", "duplicate", "p"))


class TestRemove(Case):
    def test_remove(self):
        heap = heap_of((2, None, 1), (0, None, 1), (1, None, 0))
        writes = [("a", 1, (0, None, 1), None), ("a", 0, (2, None, 1), None)]
        self.runs(heap, ("remove", "a", ("equal", 2, 1)), ("removed", 2), writes)
        self.assertEqual((heap.pairs("a"), heap.fresh), ([(2, (1, None, 0))], 3))
        self.runs(heap, ("remove", "a", NEVER), ("removed", 0), [])

    def test_only_seen_rows_are_removed(self):
        heap = heap_of((0, 0, 0), (1, 1, 0))
        self.runs(heap, ("remove", "a", ALWAYS), ("removed", 1), [("a", 1, (1, 1, 0), None)], but((0, 0, 0)))
        self.assertEqual(heap.bag("a"), [(0, 0, 0)])

    def test_zero(self):
        self.refuses(heap_of((0, 1, 0), (1, 0, 0)), ("remove", "a", ("quotient", 0, 1, 0)), ("refused", "zero"))


class TestUpsert(Case):
    def test_puts(self):
        heap = heap_of((0, 0, 0))
        statement = ("upsert", "a", (1, 1, 1), ("p",), ((2, 0),))
        self.runs(heap, statement, ("put", (1, 1, 1)), [("a", 1, None, (1, 1, 1))])

    def test_a_rule_that_is_not_named_refuses_the_put(self):
        heap = heap_of((0, 0, 0))
        self.refuses(heap, ("upsert", "a", (1, 0, 1), ("p",), ((2, 0),)), ("refused", "duplicate", "q"))
        self.refuses(heap, ("upsert", "a", (0, 1, 1), (), ((2, 0),)), ("refused", "duplicate", "p"))

    def test_changes(self):
        heap = heap_of((1, 1, 1), (0, 0, 0))
        statement = ("upsert", "a", (0, 2, 2), ("p",), ((1, "new"), (2, 1)))
        self.runs(heap, statement, ("changed", (0, 0, 0), (0, 2, 1)), [("a", 1, (0, 0, 0), (0, 2, 1))])

    def test_keeps(self):
        heap = heap_of((0, 0, 0))
        before = state(heap)
        self.runs(heap, ("upsert", "a", (0, 2, 0), ("p",), ((2, "new"),)), ("kept", (0, 0, 0)), [])
        self.runs(heap, ("upsert", "a", (0, 2, 0), ("p",), ()), ("kept", (0, 0, 0)), [])
        self.assertEqual(state(heap), before)

    def test_finds_one_row_by_two_rules(self):
        heap = heap_of((0, 0, 0))
        statement = ("upsert", "a", (0, 0, 2), ("p", "q"), ((2, "new"),))
        self.runs(heap, statement, ("changed", (0, 0, 0), (0, 0, 2)), [("a", 0, (0, 0, 0), (0, 0, 2))])

    def test_finds_two(self):
        heap = heap_of((0, 0, 0), (1, 1, 1))
        self.refuses(heap, ("upsert", "a", (0, 1, 2), ("p", "q"), ()), ("refused", "ambiguous"))
        self.runs(heap, ("upsert", "a", (0, 1, 2), ("p", "q"), ()), ("kept", (0, 0, 0)), [], but((1, 1, 1)))

    def test_changed_into_a_duplicate(self):
        heap = heap_of((0, 0, 0), (1, 1, 1))
        statement = ("upsert", "a", (0, 1, 2), ("p",), ((1, "new"),))
        self.refuses(heap, statement, ("refused", "duplicate", "q"))

    def test_hidden(self):
        heap = heap_of((0, 0, 0), (1, 1, 1))
        # Its own row is looked at before what it finds.
        self.refuses(heap, ("upsert", "a", (0, 1, 2), ("p", "q"), ()), HIDDEN, but((0, 1, 2)))
        self.refuses(heap, ("upsert", "a", (0, 1, 2), ("p",), ((2, 2),)), HIDDEN, but((0, 0, 2)))

    def test_rows_that_are_not_seen_are_not_found(self):
        heap = heap_of((0, 0, 0))
        statement = ("upsert", "a", (0, 1, 2), ("p",), ((2, 1),))
        self.runs(heap, statement, ("put", (0, 1, 2)), [("a", 1, None, (0, 1, 2))], but((0, 0, 0)))


class Refused(Exception):
    pass


def second_run(world, pairs, fresh, statement, sees):
    """The tell of a statement and the rows behind it; `pairs` are the numbers and rows of its table."""
    word, table = statement[:2]
    rules = [rule for rule in world.rules if rule[1] == table]
    rows = dict(pairs)

    def visible():
        return {number: row for number, row in rows.items() if sees(table, row)}

    def store(number, row):
        if not sees(table, row):
            raise Refused("hidden")
        for rule in rules:
            if any(plain_clash(rule, row, other) for at, other in visible().items() if at != number):
                raise Refused("duplicate", rule[0])
        rows[number] = row

    def found(condition):
        told = {number: plain_truth(condition, row) for number, row in visible().items()}
        if "error" in told.values():
            raise Refused("zero")
        return sorted((row_key(rows[number]), number) for number in told if told[number] == 2)

    def upsert(asked, names, sets):
        if not sees(table, asked):
            raise Refused("hidden")
        chosen = [rule for rule in rules if rule[0] in names]
        hit = [at for at, row in visible().items() if any(plain_clash(rule, asked, row) for rule in chosen)]
        if len(hit) > 1:
            raise Refused("ambiguous")
        if not hit:
            store(fresh, asked)
            return ("put", asked)
        old = list(rows[hit[0]])
        new = list(old)
        for column, source in sets:
            new[column] = asked[column] if source == "new" else source
        if new == old:
            return ("kept", tuple(old))
        store(hit[0], tuple(new))
        return ("changed", tuple(old), tuple(new))

    try:
        if word == "put":
            store(fresh, statement[2])
            return ("put", statement[2]), rows
        if word == "upsert":
            return upsert(*statement[2:]), rows
        numbers = [number for _, number in found(statement[2])]
        if word == "count":
            return ("count", len(numbers)), rows
        for number in numbers:
            if word == "remove":
                del rows[number]
            else:
                new = list(rows[number])
                new[statement[3]] = statement[4]
                store(number, tuple(new))
        return ("removed" if word == "remove" else "changed", len(numbers)), rows
    except Refused as refused:
        return ("refused", *refused.args), dict(pairs)


class TestAgainstASecondTelling(Case):
    def test_scripts(self):
        seen = set()
        for chance in chances(150, "running"):
            world = random_world(chance)
            shown = random_condition(chance, 2)

            def sees(table, row):
                return table == "b" or plain_truth(shown, row) != 0

            heap = Heap()
            for _ in range(25):
                statement = random_statement(chance, world)
                before = {table: heap.pairs(table) for table in world}
                fresh = heap.fresh
                tell, rows = second_run(world, before[statement[1]], fresh, statement, sees)
                told, writes = run_plainly(world, heap, statement, sees)
                self.assertEqual(told, tell, statement)
                seen.add(told[:2] if told[0] == "refused" else told[0])
                after = {**before, statement[1]: sorted(rows.items())}
                self.assertEqual({table: heap.pairs(table) for table in world}, after, statement)
                self.assertEqual(heap.fresh, fresh + (told[0] == "put"))
                replayed = dict(before[statement[1]])
                for table, number, old, new in writes:
                    self.assertEqual(table, statement[1])
                    self.assertEqual(replayed.pop(number, None), old)
                    if new is not None:
                        replayed[number] = new
                self.assertEqual(replayed, rows)
        refusals = {("refused", word) for word in ("zero", "hidden", "ambiguous", "duplicate")}
        self.assertEqual(seen, refusals | {"put", "changed", "removed", "kept", "count"})
