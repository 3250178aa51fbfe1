import unittest

from bookstogether.conditions import check_condition
from bookstogether.errors import InvalidCondition
from bookstogether.guarding import guarded
from bookstogether.heaps import Heap
from bookstogether.hidingbooks import HidingBook
from bookstogether.rows import row_key
from bookstogether.sights import Sight
from bookstogether.statements import check_statement
from bookstogether.viewing import ask_table, exposed, parting_question, probe, revealing, seem_alike, view
from bookstogether.worlds import World

from tests.samples import ALWAYS, NEVER, ROWS, chances, plain_outcome, plain_shown, random_condition, random_heap
from tests.samples import random_question, random_row, random_rules

WORLD = World(("a", "b"))
RULE = (1, "a", ("below", 0, 1))
SHOWN, HIDDEN = (0, 1, 2), (1, 0, 2)
ZERO = ("quotient", 0, 1, 0)


def heap_of(*rows, table="a"):
    heap = Heap()
    for row in rows:
        heap.put(table, row)
    return heap


def copies(heap, *rows, table="a"):
    """The heap with these rows added to it."""
    other = heap.copy()
    for row in rows:
        other.put(table, row)
    return other


def plain_ask(book, user, heap, question):
    """What `ask_table` returns, told without the program's parts."""
    table, condition = question[1:3]
    rows = [row for _, row in heap.pairs(table)]
    shown = [row for row in rows if plain_shown(book.rules, user, table, row)]
    tested = rows if book.first == "ask" else shown
    if any(plain_outcome(condition, row) == "error" for row in tested):
        return (("refused", "zero"), None)
    found = [row for row in shown if plain_outcome(condition, row) == "true"]
    many = len(rows) if book.told == "all" else len(shown)
    if question[0] == "rows":
        return (("rows", tuple(sorted(found, key=row_key))), many)
    if question[0] == "count":
        return (("count", len(found)), many)
    known = [row[question[3]] for row in found if row[question[3]] is not None]
    return ((question[0], sum(known) if question[0] == "sum" else max(known, default=None)), many)


class TestViews(unittest.TestCase):
    def test_view(self):
        heap = heap_of((0, 1, 2), (1, 1, 1), (0, None, 2), (None, 0, 0), (0, 1, 2))
        heap.put("b", (1, 1, 1))
        sight = Sight(RULE)
        self.assertEqual(view(sight, 1, heap, "a"), [(0, None, 2), (0, 1, 2), (0, 1, 2)])
        self.assertEqual(len(view(sight, 0, heap, "a")), 5)
        self.assertEqual(view(sight, 1, heap, "b"), [(1, 1, 1)])
        self.assertEqual(view(Sight((0, "b", NEVER)), 0, heap, "b"), [])

    def test_seem_alike(self):
        sight = Sight(RULE)
        heap, other = heap_of(HIDDEN, SHOWN), heap_of(SHOWN, (2, 2, 2), (1, 1, 1))
        self.assertIs(seem_alike(WORLD, sight, 1, heap, other), True)
        self.assertIs(seem_alike(WORLD, sight, 0, heap, other), False)
        self.assertIs(seem_alike(WORLD, sight, 1, heap, copies(heap, SHOWN)), False)
        self.assertIs(seem_alike(WORLD, sight, 1, heap, copies(heap, HIDDEN, table="b")), False)
        self.assertIs(seem_alike(WORLD, sight, 1, Heap(), Heap()), True)

    def test_views_are_new(self):
        heap = heap_of(SHOWN)
        view(Sight(), 0, heap, "a").clear()
        self.assertEqual(len(heap), 1)


class TestAskTable(unittest.TestCase):
    HEAP = heap_of(SHOWN, HIDDEN, (0, 2, None))

    def ask(self, question, user=1, **options):
        return ask_table(HidingBook(RULE, **options), user, self.HEAP, question)

    def test_each_kind(self):
        self.assertEqual(self.ask(("rows", "a", ALWAYS, "")), (("rows", (SHOWN, (0, 2, None))), 2))
        self.assertEqual(self.ask(("count", "a", ("equal", 1, 2), "s")), (("count", 1), 2))
        self.assertEqual(self.ask(("sum", "a", ALWAYS, 1, "")), (("sum", 3), 2))
        self.assertEqual(self.ask(("greatest", "a", ALWAYS, 2, "")), (("greatest", 2), 2))
        self.assertEqual(self.ask(("greatest", "a", NEVER, 2, "")), (("greatest", None), 2))
        self.assertEqual(self.ask(("rows", "b", ALWAYS, "")), (("rows", ()), 0))

    def test_all_rows_are_told(self):
        self.assertEqual(self.ask(("count", "a", NEVER, ""), told="all"), (("count", 0), 3))
        self.assertEqual(self.ask(("count", "a", NEVER, ""), user=0), (("count", 0), 3))

    def test_a_hidden_row_that_divides_by_0(self):
        refused = (("refused", "zero"), None)
        for told in ("shown", "all"):
            many = 2 if told == "shown" else 3
            self.assertEqual(self.ask(("count", "a", ZERO, ""), told=told), (("count", 2), many))
            self.assertEqual(self.ask(("count", "a", ZERO, ""), told=told, first="ask"), refused)

    def test_a_shown_row_that_divides_by_0(self):
        for first in ("hide", "ask"):
            told = self.ask(("sum", "a", ("quotient", 1, 0, 0), 0, ""), first=first)
            self.assertEqual(told, (("refused", "zero"), None))

    def test_against_a_second_telling(self):
        told = set()
        for chance in chances(150, "ask"):
            first, counts = chance.choice(("hide", "ask")), chance.choice(("shown", "all"))
            book = HidingBook(*random_rules(chance), first=first, told=counts)
            heap, question, user = random_heap(chance, 10), random_question(chance, WORLD), chance.randrange(3)
            pair = ask_table(book, user, heap, question)
            self.assertEqual(pair, plain_ask(book, user, heap, question))
            told.add(pair[0][0])
        self.assertEqual(told, {"rows", "count", "sum", "greatest", "refused"})

    def test_guarded_questions(self):
        told = set()
        for chance in chances(150, "guarded"):
            rules, counts = random_rules(chance), chance.choice(("shown", "all"))
            question, heap, user = random_question(chance, WORLD), random_heap(chance, 10), chance.randrange(3)
            expected = ask_table(HidingBook(*rules, told=counts), user, heap, question)
            for first in ("hide", "ask"):
                book = HidingBook(*rules, first=first, told=counts)
                self.assertEqual(ask_table(book, user, heap, guarded(book, user, question)), expected)
                told.add((first, ask_table(book, user, heap, question) == expected, expected[1] is None))
        self.assertEqual(told, {("hide", True, True), ("hide", True, False), ("ask", False, False)} | {
            ("ask", True, True), ("ask", True, False)
        })


class TestRevealing(unittest.TestCase):
    def test_hiding_first_reveals_nothing(self):
        book = HidingBook(RULE)
        for question in (("count", "a", ZERO, ""), ("rows", "a", ALWAYS, "")):
            self.assertIsNone(revealing(book, 1, question))
            self.assertIsNone(revealing(book, 1, question, looks=False))
            self.assertIsNone(revealing(book, 1, question, looks=True))

    def test_asking_first(self):
        book = HidingBook(RULE, first="ask")
        self.assertEqual(revealing(book, 1, ("count", "a", ZERO, "")), (None, 0, None))
        known = ("not", ("unknown", 0))
        question = ("sum", "a", ("and", known, ("and", ("equal", 0, 2), ZERO)), 1, "")
        self.assertEqual(revealing(book, 1, question), (2, 0, None))
        # Where column 0 is unknown, so is the left part, and the right one is evaluated.
        self.assertEqual(revealing(book, 1, ("sum", "a", ("and", ("equal", 0, 2), ZERO), 1, "")), (None, 0, None))
        self.assertIsNone(revealing(book, 1, ("count", "a", ("and", known, ("and", ("equal", 0, 0), ZERO)), "")))
        self.assertIsNone(revealing(book, 1, ("rows", "a", ALWAYS, "")))
        self.assertIsNone(revealing(book, 0, ("count", "a", ZERO, "")))
        self.assertIsNone(revealing(book, 1, ("count", "b", ZERO, "")))

    def test_looks(self):
        for first in ("hide", "ask"):
            book = HidingBook(RULE, first=first, told="all")
            for question in (("rows", "a", NEVER, ""), ("count", "a", ZERO, "")):
                self.assertEqual(revealing(book, 1, question, looks=True), (None, None, None))
            self.assertIsNone(revealing(book, 1, ("rows", "a", NEVER, "")))
            self.assertIsNone(revealing(book, 0, ("rows", "a", ALWAYS, ""), looks=True))
        book = HidingBook(RULE, first="ask")
        self.assertIsNone(revealing(book, 1, ("rows", "a", NEVER, ""), looks=True))
        self.assertEqual(revealing(book, 1, ("count", "a", ZERO, ""), looks=True), (None, 0, None))

    def test_against_heaps_of_few_rows(self):
        found = 0
        for chance in chances(60, "revealing"):
            first, told = chance.choice(("hide", "ask", "ask")), chance.choice(("shown", "all"))
            user, table = chance.randrange(3), chance.choice("ab")
            rules = [rule for rule in random_rules(chance) if rule[:2] != (user, table)]
            book = HidingBook((user, table, random_condition(chance, 3)), *rules[:5], first=first, told=told)
            question = ("count", table, ("and", random_condition(chance, 2), random_condition(chance, 2, True)), "")
            heaps = [Heap()] + [random_heap(chance, 6) for _ in range(2)]
            for looks in (False, True):
                expected = [row for row in ROWS if self.is_told(book, user, question, heaps, row, looks)][:1]
                row = revealing(book, user, question, looks=looks)
                self.assertEqual(row, expected[0] if expected else None)
                found += row is not None
        self.assertTrue(30 <= found <= 90, found)

    def is_told(self, book, user, question, heaps, row, looks):
        """Whether a row is hidden and changes what the question is told on one of the heaps."""
        if plain_shown(book.rules, user, question[1], row):
            return False
        for heap in heaps:
            one = plain_ask(book, user, heap, question)
            two = plain_ask(book, user, copies(heap, row, table=question[1]), question)
            if one[0] != two[0] or looks and one != two:
                return True
        return False

    def test_without_one_the_tells_are_equal_on_heaps_that_seem_alike(self):
        for chance in chances(80, "alike heaps"):
            book = HidingBook(*random_rules(chance), first="ask", told=chance.choice(("shown", "all")))
            user, question = chance.randrange(3), random_question(chance, WORLD)
            heap = random_heap(chance, 8)
            hidden = book.sight.hidden(user, question[1])
            other = copies(heap, *[chance.choice(hidden) for _ in range(3) if hidden], table=question[1])
            self.assertTrue(seem_alike(WORLD, book.sight, user, heap, other))
            for looks in (False, True):
                if revealing(book, user, question, looks=looks) is None:
                    pairs = [ask_table(book, user, one, question) for one in (heap, other)]
                    self.assertEqual(pairs[0][0], pairs[1][0])
                    self.assertTrue(not looks or pairs[0] == pairs[1])


class TestExposed(unittest.TestCase):
    def test_exposed(self):
        book = HidingBook(RULE, first="ask")
        expected = [row for row in ROWS if row[0] != 0 and 0 in row]
        self.assertEqual(list(exposed(book, 1, "a")), expected)
        self.assertEqual(list(exposed(book, 0, "a")), [])
        self.assertEqual(list(exposed(book, 1, "b")), [])
        for told in ("shown", "all"):
            self.assertEqual(list(exposed(HidingBook(RULE, told=told), 1, "a")), [])

    def test_it_yields(self):
        rows = exposed(HidingBook((0, "a", NEVER), first="ask"), 0, "a")
        self.assertEqual([next(rows), next(rows)], [(None, None, 0), (None, 0, None)])

    def test_each_exposed_row_is_revealed_by_its_probe(self):
        for chance in chances(6, "exposed"):
            book = HidingBook(*random_rules(chance), first="ask")
            for user in range(3):
                told = list(exposed(book, user, "a"))
                for row in book.sight.hidden(user, "a"):
                    question = probe("a", row)
                    revealed = None if question is None else revealing(book, user, question)
                    self.assertEqual(revealed, row if row in told else None)


class TestProbe(unittest.TestCase):
    def test_every_row(self):
        for row in ROWS:
            for table in ("a", "b"):
                question = probe(table, row)
                if 0 not in row:
                    self.assertIsNone(question)
                    continue
                self.assertIsNone(check_statement(WORLD, question))
                self.assertEqual(question[:2], ("count", table))
                told = [plain_outcome(question[2], other) for other in ROWS]
                self.assertEqual(told, ["error" if other == row else "false" for other in ROWS])

    def test_levels(self):
        for row in ROWS:
            if 0 in row:
                check_condition(probe("a", row)[2])
        with self.assertRaises(InvalidCondition):
            check_condition(probe("a", (0, 0, 0))[2], quotients=False)


class TestPartingQuestion(unittest.TestCase):
    def parting(self, heap, other, looks=False, user=1, **options):
        book = HidingBook(RULE, **options)
        question = parting_question(WORLD, book, user, heap, other, looks=looks)
        if question is not None:
            check_statement(WORLD, question)
            one, two = (ask_table(book, user, rows, question) for rows in (heap, other))
            self.assertNotEqual(one if looks else one[0], two if looks else two[0])
        return question

    def test_equal_heaps(self):
        heap = heap_of(SHOWN, HIDDEN)
        for looks in (False, True):
            for first in ("hide", "ask"):
                self.assertIsNone(self.parting(heap, heap.copy(), looks, first=first, told="all"))
                self.assertIsNone(self.parting(Heap(), Heap(), looks, first=first, told="all"))

    def test_numbers_make_no_difference(self):
        self.assertIsNone(self.parting(heap_of(SHOWN, HIDDEN), heap_of(HIDDEN, SHOWN), True, first="ask", told="all"))

    def test_shown_rows(self):
        for first in ("hide", "ask"):
            self.assertIsNotNone(self.parting(heap_of(SHOWN), heap_of(SHOWN, SHOWN), first=first))
            self.assertIsNotNone(self.parting(heap_of(SHOWN, HIDDEN), heap_of((0, 0, 0), HIDDEN), first=first))
            self.assertIsNotNone(self.parting(heap_of(HIDDEN), heap_of(), user=0, first=first))
            self.assertEqual(self.parting(heap_of(), heap_of((1, 1, 1), table="b"), first=first)[1], "b")

    def test_hidden_rows(self):
        heap, other = heap_of(SHOWN), heap_of(SHOWN, HIDDEN)
        self.assertIsNone(self.parting(heap, other))
        self.assertIsNone(self.parting(heap, other, True))
        self.assertIsNotNone(self.parting(heap, other, first="ask"))
        self.assertIsNotNone(self.parting(heap, other, True, first="ask"))
        self.assertIsNotNone(self.parting(heap, other, True, told="all"))
        self.assertIsNone(self.parting(heap, other, told="all"))

    def test_looks_count_only_if_they_are_asked_for(self):
        heap, other = heap_of(SHOWN), heap_of(SHOWN, HIDDEN)
        book = HidingBook(RULE, told="all")
        self.assertIsNone(parting_question(WORLD, book, 1, heap, other))
        self.assertIsNone(revealing(book, 1, ("rows", "a", ALWAYS, "")))

    def test_hidden_rows_without_a_0(self):
        heap, other = heap_of(SHOWN), heap_of(SHOWN, (1, 2, 2))
        self.assertIsNone(self.parting(heap, other, True, first="ask"))
        self.assertIsNotNone(self.parting(heap, other, True, first="ask", told="all"))

    def test_a_hidden_row_that_both_have(self):
        # How often it is there is told by the looks alone.
        heap, other = heap_of(HIDDEN), heap_of(HIDDEN, HIDDEN)
        self.assertIsNone(self.parting(heap, other, True, first="ask"))
        self.assertIsNotNone(self.parting(heap, other, True, first="ask", told="all"))

    def test_other_hidden_rows_of_the_same_number(self):
        heap, other = heap_of((1, 1, 2)), heap_of((2, 2, 2))
        for first in ("hide", "ask"):
            self.assertIsNone(self.parting(heap, other, True, first=first, told="all"))

    def test_heaps_stay_as_they_are(self):
        heap, other = heap_of(SHOWN), heap_of(HIDDEN)
        self.parting(heap, other, True, first="ask", told="all")
        self.assertEqual((heap.pairs("a"), other.pairs("a")), ([(0, SHOWN)], [(0, HIDDEN)]))

    def test_none_means_that_no_question_differs(self):
        found = {False: 0, True: 0}
        for chance in chances(120, "parting"):
            first, told = chance.choice(("hide", "ask")), chance.choice(("shown", "all"))
            book = HidingBook(*random_rules(chance), first=first, told=told)
            user, looks = chance.randrange(3), chance.choice((False, True))
            heap = random_heap(chance, 4)
            other = heap.copy()
            for _ in range(chance.randrange(3)):
                table = chance.choice("ab")
                rows = book.sight.hidden(user, table) or [random_row(chance)]
                other.put(table, chance.choice(rows))
            question = parting_question(WORLD, book, user, heap, other, looks=looks)
            found[question is None] += 1
            pairs = []
            if question is None:
                probes = [probe(table, row) for table in "ab" for row in ROWS if 0 in row]
                simple = [("count", table, ALWAYS, "") for table in "ab"]
                randoms = [random_question(chance, WORLD) for _ in range(20)]
                for asked in probes + simple + randoms:
                    pairs.append((plain_ask(book, user, heap, asked), plain_ask(book, user, other, asked)))
                self.assertTrue(all(one == two if looks else one[0] == two[0] for one, two in pairs))
            else:
                check_statement(WORLD, question)
                one, two = plain_ask(book, user, heap, question), plain_ask(book, user, other, question)
                self.assertTrue(one != two if looks else one[0] != two[0])
        self.assertTrue(min(found.values()) >= 25, found)

    def test_64_rows_and_deep_conditions(self):
        condition = random_condition(chances(1, "deep")[0], 6)
        book = HidingBook((1, "a", condition), first="ask", told="all")
        heap = heap_of(*ROWS)
        self.assertIsNone(parting_question(WORLD, book, 1, heap, heap_of(*ROWS[::-1]), looks=True))
        self.assertIsNotNone(parting_question(WORLD, book, 1, heap, heap_of(*ROWS[1:]), looks=True))
