import unittest

from bookstogether.errors import UnknownSummary
from bookstogether.heaps import Heap
from bookstogether.summarybooks import Summary, SummaryBook
from bookstogether.totals import GreatestOnly, Totals

from tests.samples import ALWAYS, ROWS, chances, plain_outcome, random_condition, random_heap, random_row

KNOWN = ("not", ("unknown", 1))


def book_of(greatest="write"):
    """One summary of each kind for table `a`, and one for table `b`."""
    return SummaryBook(
        Summary("many", "a", "count", 0, KNOWN), Summary("most", "a", "greatest", 0, KNOWN),
        Summary("all", "a", "sum", 0, KNOWN), Summary("other", "b", "greatest", 2, ALWAYS),
        greatest=greatest,
    )


NAMES = ("many", "most", "all", "other")


def heap_of(*rows, table="a"):
    heap = Heap()
    for row in rows:
        heap.put(table, row)
    return heap


def kept(totals):
    return [totals.saved(name) for name in NAMES]


def changed(totals, heap, number, new, table="a"):
    """Change the row of a number in the heap and have the totals follow."""
    old = heap[number][1] if number in heap else None
    heap.write(table, number, new)
    totals.write(table, number, old, new)


class TestFilling(unittest.TestCase):
    def test_new_totals(self):
        heap = heap_of((2, 0, 0), (1, 1, 0), (2, None, 0))
        heap.put("b", (0, 0, 1))
        totals = Totals(book_of(), heap)
        self.assertEqual(kept(totals), [(2, False), (2, False), (3, False), (1, False)])
        self.assertEqual([totals.current(name) for name in NAMES], [2, 2, 3, 1])
        self.assertEqual([totals.is_open(name) for name in NAMES], [False] * 4)
        self.assertEqual(kept(Totals(book_of(), Heap())), [(0, False), (None, False), (0, False), (None, False)])

    def test_the_heap_is_not_copied(self):
        heap = heap_of((2, 0, 0))
        totals = Totals(book_of(), heap)
        heap.put("a", (1, 0, 0))
        self.assertEqual(totals.current("all"), 2)
        self.assertIsNone(totals.fill())
        self.assertEqual(totals.current("all"), 3)

    def test_settle(self):
        heap = heap_of((2, 0, 0))
        totals = Totals(book_of(), heap)
        for name in NAMES:
            totals.restore(name, (7, True))
        self.assertIsNone(totals.settle("most"))
        self.assertEqual(kept(totals), [(7, True), (2, False), (7, True), (7, True)])
        totals.fill()
        self.assertEqual(kept(totals), [(1, False), (2, False), (2, False), (None, False)])

    def test_unknown_names(self):
        totals = Totals(book_of(), Heap())
        for name in ("x", "", "a"):
            for call in (
                lambda: totals.settle(name), lambda: totals.add(name, 1), lambda: totals.restore(name, (1, False)),
                lambda: totals.current(name), lambda: totals.is_open(name), lambda: totals.saved(name),
            ):
                with self.assertRaises(UnknownSummary) as caught:
                    call()
                self.assertEqual(caught.exception.name, name)
        self.assertEqual(kept(totals), [(0, False), (None, False), (0, False), (None, False)])


class TestCountsAndSums(unittest.TestCase):
    def test_write(self):
        heap = heap_of((2, 0, 0))
        totals = Totals(book_of(), heap)
        self.assertIsNone(totals.write("a", 0, (2, 0, 0), (1, 0, 0)))
        self.assertEqual((totals.current("many"), totals.current("all")), (1, 1))
        totals.write("a", 1, None, (2, 2, 2))
        self.assertEqual((totals.current("many"), totals.current("all")), (2, 3))
        totals.write("a", 1, (2, 2, 2), None)
        totals.write("a", 0, (1, 0, 0), (1, None, 0))
        self.assertEqual((totals.current("many"), totals.current("all")), (0, 0))

    def test_it_adds_to_what_is_kept_due_or_not(self):
        totals = Totals(book_of(), Heap())
        totals.restore("all", (10, False))
        totals.write("a", 0, (1, 0, 0), None)
        self.assertEqual((totals.current("many"), totals.current("all")), (-1, 9))

    def test_only_the_summaries_of_the_table(self):
        totals = Totals(book_of(), Heap())
        totals.write("b", 0, None, (2, 2, 2))
        self.assertEqual(kept(totals), [(0, False), (None, False), (0, False), (2, False)])
        totals.write("c", 0, None, (2, 2, 2))
        self.assertEqual(totals.current("other"), 2)

    def test_differences(self):
        totals = Totals(book_of(), Heap())
        self.assertEqual(totals.differences("a", None, (2, 0, 0)), [("many", 1), ("all", 2)])
        self.assertEqual(totals.differences("a", (2, 0, 0), (1, 0, 0)), [("all", -1)])
        self.assertEqual(totals.differences("a", (0, 0, 0), None), [("many", -1)])
        self.assertEqual(totals.differences("a", (2, 0, 0), (2, 1, 1)), [])
        self.assertEqual(totals.differences("a", None, None), [])
        self.assertEqual(totals.differences("b", None, (2, 2, 2)), [])
        self.assertEqual(kept(totals), [(0, False), (None, False), (0, False), (None, False)])

    def test_changes(self):
        totals = Totals(book_of(), Heap())
        self.assertEqual(totals.changes("a", None, (2, 0, 0)), ("many", "most", "all"))
        self.assertEqual(totals.changes("a", (2, 0, 0), (1, 0, 0)), ("most", "all"))
        self.assertEqual(totals.changes("a", None, (0, 0, 0)), ("many", "most"))
        self.assertEqual(totals.changes("a", (None, 0, 0), None), ("many",))
        self.assertEqual(totals.changes("a", (None, None, 0), None), ())
        self.assertEqual(totals.changes("b", None, (2, 2, 2)), ("other",))

    def test_add(self):
        totals = Totals(book_of(), Heap())
        self.assertIsNone(totals.add("all", 5))
        totals.add("all", -2)
        totals.add("many", 0)
        self.assertEqual((totals.saved("all"), totals.saved("many")), ((3, False), (0, False)))


class TestGreatest(unittest.TestCase):
    def totals(self, greatest, *rows):
        heap = heap_of(*rows)
        return Totals(book_of(greatest), heap), heap

    def test_a_greater_value_comes(self):
        for greatest in ("write", "question", "stays"):
            totals, heap = self.totals(greatest)
            for value in (0, 2, 1):
                changed(totals, heap, heap.fresh, (value, 0, 0))
            self.assertEqual(totals.saved("most"), (2, False))

    def test_the_last_row_with_the_greatest_value_goes(self):
        for greatest, told in (("write", (1, False)), ("question", (2, True)), ("stays", (2, False))):
            totals, heap = self.totals(greatest, (1, 0, 0), (2, 0, 0))
            changed(totals, heap, 1, None)
            self.assertEqual(totals.saved("most"), told)

    def test_another_row_with_the_greatest_value_stays(self):
        for greatest, told in (("write", (2, False)), ("question", (2, True)), ("stays", (2, False))):
            totals, heap = self.totals(greatest, (2, 1, 1), (2, 0, 0))
            changed(totals, heap, 1, (0, 0, 0))
            self.assertEqual(totals.saved("most"), told)

    def test_no_row_is_left(self):
        for greatest, told in (("write", (None, False)), ("question", (2, True)), ("stays", (2, False))):
            totals, heap = self.totals(greatest, (2, 0, 0))
            changed(totals, heap, 0, (2, None, 0))
            self.assertEqual(totals.saved("most"), told)

    def test_the_greatest_value_grows_in_its_row(self):
        for greatest, told in (("write", (2, False)), ("question", (1, True)), ("stays", (2, False))):
            totals, heap = self.totals(greatest, (1, 0, 0))
            changed(totals, heap, 0, (2, 0, 0))
            self.assertEqual(totals.saved("most"), told)

    def test_equal_shares_change_nothing(self):
        for greatest in ("write", "question", "stays"):
            totals, heap = self.totals(greatest, (2, 0, 0))
            changed(totals, heap, 0, (2, 1, 1))
            self.assertEqual(totals.saved("most"), (2, False))
            # Even a value that is not due stays.
            totals.restore("most", (0, False))
            changed(totals, heap, 0, (2, 2, 2))
            changed(totals, heap, heap.fresh, (None, 0, 0))
            self.assertEqual(totals.saved("most"), (0, False))

    def test_a_lesser_value_goes(self):
        for greatest in ("write", "question", "stays"):
            totals, heap = self.totals(greatest, (1, 0, 0), (2, 0, 0))
            changed(totals, heap, 0, None)
            self.assertEqual(totals.saved("most"), (2, False))

    def test_a_value_that_is_not_kept_goes(self):
        for greatest in ("write", "question", "stays"):
            totals, heap = self.totals(greatest, (2, 0, 0))
            totals.restore("most", (None, False))
            changed(totals, heap, 0, (1, 0, 0))
            self.assertEqual(totals.saved("most"), (1, False))

    def test_nothing_changes_while_the_summary_is_open(self):
        for greatest in ("write", "question", "stays"):
            totals, heap = self.totals(greatest, (1, 0, 0))
            totals.restore("most", (1, True))
            changed(totals, heap, 0, (2, 0, 0))
            changed(totals, heap, heap.fresh, (2, 0, 0))
            changed(totals, heap, 0, None)
            self.assertEqual(totals.saved("most"), (1, True))
            totals.settle("most")
            self.assertEqual(totals.saved("most"), (2, False))

    def test_the_other_summaries_follow_while_one_is_open(self):
        totals, heap = self.totals("question", (2, 0, 0), (1, 0, 0))
        changed(totals, heap, 0, None)
        self.assertEqual(kept(totals), [(1, False), (2, True), (1, False), (None, False)])

    def test_saved_and_restored(self):
        totals, heap = self.totals("question", (2, 0, 0))
        pair = totals.saved("most")
        changed(totals, heap, 0, None)
        self.assertIs(totals.is_open("most"), True)
        self.assertIsNone(totals.restore("most", pair))
        self.assertEqual(totals.saved("most"), (2, False))

    def test_greatest_only(self):
        for greatest, told in (("write", (1, False)), ("question", (2, True)), ("stays", (2, False))):
            totals, heap = self.totals(greatest, (1, 0, 0), (2, 0, 0))
            heap.write("a", 1, None)
            self.assertIsNone(GreatestOnly(totals).write("a", 1, (2, 0, 0), None))
            self.assertEqual(kept(totals), [(2, False), told, (3, False), (None, False)])
            GreatestOnly(totals).write("b", 1, None, (0, 0, 0))
            self.assertEqual(totals.current("other"), 0)


class TestAgainstASecondTelling(unittest.TestCase):
    def test_many_changes(self):
        opened = 0
        for chance in chances(90, "totals"):
            greatest = chance.choice(("write", "question", "stays"))
            kinds = [chance.choice(("count", "sum", "greatest", "greatest")) for _ in range(4)]
            summaries = [
                Summary("stuv"[at], chance.choice("ab"), kind, chance.randrange(3), random_condition(chance, 2))
                for at, kind in enumerate(kinds)
            ]
            heap = random_heap(chance, 6)
            totals = Totals(SummaryBook(*summaries, greatest=greatest), heap)
            expected = {one.name: [self.due(one, heap), False] for one in summaries}
            for _ in range(20):
                number = chance.randrange(heap.fresh + 1)
                table, old = heap[number] if number in heap else (chance.choice("ab"), None)
                new = chance.choice((None, random_row(chance), random_row(chance)))
                own = [one for one in summaries if one.table == table]
                names = [one.name for one in own if self.share(one, old) != self.share(one, new)]
                self.assertEqual(totals.changes(table, old, new), tuple(names))
                heap.write(table, number, new)
                totals.write(table, number, old, new)
                for one in summaries:
                    if one.name in names:
                        self.follow(expected[one.name], one, greatest, self.share(one, old), self.share(one, new), heap)
                    self.assertEqual(totals.saved(one.name), tuple(expected[one.name]))
                    opened += expected[one.name][1]
                    if not expected[one.name][1] and (one.kind != "greatest" or greatest != "stays"):
                        self.assertEqual(totals.current(one.name), self.due(one, heap))
        self.assertGreater(opened, 50)

    def share(self, one, row):
        is_in = row is not None and plain_outcome(one.condition, row) == "true"
        if one.kind == "count":
            return int(is_in)
        known = row[one.column] if is_in else None
        return known or 0 if one.kind == "sum" else known

    def due(self, one, heap):
        shares = [self.share(one, row) for _, row in heap.pairs(one.table)]
        if one.kind == "greatest":
            return max([share for share in shares if share is not None], default=None)
        return sum(shares)

    def follow(self, state, one, greatest, before, after, heap):
        """Have the pair of the kept value and the openness follow a change of a share."""
        if one.kind != "greatest":
            state[0] += after - before
        elif not state[1]:
            if before is not None and before == state[0] and greatest == "write":
                state[0] = self.due(one, heap)
            elif before is not None and before == state[0] and greatest == "question":
                state[1] = True
            elif state[0] is None or after is not None and after > state[0]:
                state[0] = after

    def test_all_rows(self):
        heap = heap_of(*ROWS)
        totals = Totals(book_of(), heap)
        self.assertEqual([totals.current(name) for name in NAMES], [48, 2, 36, None])
