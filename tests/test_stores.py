import unittest

from bookstogether.errors import InvalidRow, InvalidStatement, InvalidStore, ScriptRefused, UnknownTable
from bookstogether.sights import Sight
from bookstogether.stores import Store, run_script
from bookstogether.worlds import World

from tests.samples import ALWAYS

WORLD = World(["a", "b"], [("p", "a", 0, ALWAYS)])
SIGHT = Sight((1, "a", ("equal", 2, 0)))


def state(store):
    return ({number: store.heap[number] for number in store.heap}, store.heap.fresh)


class TestStore(unittest.TestCase):
    def test_a_new_store(self):
        store = Store(WORLD)
        self.assertIs(store.world, WORLD)
        self.assertEqual((len(store), store.heap.fresh), (0, 0))
        self.assertIs(store.sight(2, "a", (0, 0, 0)), True)
        self.assertIs(Store(WORLD, SIGHT).sight, SIGHT)

    def test_load(self):
        store = Store(WORLD, SIGHT)
        # Whoever may see it.
        self.assertIsNone(store.load("a", (0, 0, 1)))
        store.load("b", (0, 0, 1))
        store.load("b", (0, 0, 1))
        self.assertEqual((store.bag("a"), store.bag("b")), ([(0, 0, 1)], [(0, 0, 1)] * 2))
        self.assertEqual((len(store), store.heap.fresh), (3, 3))

    def test_errors_of_load_in_their_order(self):
        store = Store(WORLD, SIGHT)
        store.load("a", (0, 0, 1))
        before = state(store)
        with self.assertRaises(UnknownTable) as caught:
            store.load("c", (0, 0))
        self.assertEqual(caught.exception.name, "c")
        with self.assertRaises(InvalidRow):
            store.load("a", (0, 0))
        with self.assertRaises(InvalidStore):
            store.load("a", (0, 1, 2))
        self.assertEqual(state(store), before)

    def test_run_for_what_a_user_is_shown(self):
        store = Store(WORLD, SIGHT)
        store.load("a", (0, 0, 1))
        self.assertEqual(store.run(0, ("count", "a", ALWAYS, "")), ("count", 1))
        self.assertEqual(store.run(1, ("count", "a", ALWAYS, "")), ("count", 0))
        self.assertEqual(store.run(0, ("put", "a", (0, 2, 0))), ("refused", "duplicate", "p"))
        self.assertEqual(store.run(1, ("put", "a", (0, 2, 1))), ("refused", "hidden"))
        self.assertEqual(store.run(1, ("put", "a", (0, 2, 0))), ("put", (0, 2, 0)))
        self.assertEqual(store.bag("a"), [(0, 0, 1), (0, 2, 0)])

    def test_a_refused_statement_changes_nothing(self):
        store = Store(WORLD)
        for row in ((1, 1, 0), (0, 2, 0), (2, 0, 0)):
            store.load("a", row)
        before = state(store)
        for statement in (
            ("put", "a", (0, 2, 2)),
            ("change", "a", ALWAYS, 0, 2),
            ("remove", "a", ("quotient", 0, 1, 0)),
        ):
            self.assertEqual(store.run(0, statement)[0], "refused", statement)
            self.assertEqual(state(store), before)

    def test_run_checks_the_statement(self):
        store = Store(WORLD)
        with self.assertRaises(InvalidStatement):
            store.run(0, ("put", "a"))
        with self.assertRaises(UnknownTable):
            store.run(0, ("put", "c", (0, 0, 0)))
        self.assertEqual(len(store), 0)

    def test_bag(self):
        store = Store(WORLD)
        store.load("b", (2, 2, 2))
        store.load("b", (None, 2, 2))
        self.assertEqual(store.bag("b"), [(None, 2, 2), (2, 2, 2)])
        store.bag("b").clear()
        self.assertEqual(len(store.bag("b")), 2)
        with self.assertRaises(UnknownTable):
            store.bag("c")

    def test_copy(self):
        store = Store(WORLD, SIGHT)
        store.load("a", (0, 0, 0))
        store.run(0, ("remove", "a", ALWAYS))
        other = store.copy()
        self.assertIs(other.world, WORLD)
        self.assertIs(other.sight, SIGHT)
        self.assertEqual(state(other), state(store))
        other.load("a", (1, 1, 1))
        self.assertEqual((len(store), len(other), store.heap.fresh, other.heap.fresh), (0, 1, 1, 2))


class TestRunScript(unittest.TestCase):
    def filled(self):
        store = Store(WORLD, SIGHT)
        store.load("a", (0, 0, 0))
        store.load("a", (1, 0, 0))
        store.run(0, ("remove", "a", ("equal", 0, 1)))
        return store

    def test_tells(self):
        store = self.filled()
        heap = store.heap
        tells = run_script(store, 0, ("put", "a", (1, 1, 1)), ("count", "a", ALWAYS, ""), ("remove", "a", ALWAYS))
        self.assertEqual(tells, [("put", (1, 1, 1)), ("count", 2), ("removed", 2)])
        self.assertEqual((len(store), store.heap.fresh), (0, 3))
        self.assertIs(store.heap, heap)
        self.assertEqual(run_script(store, 0), [])

    def test_a_script_runs_for_its_user(self):
        store = self.filled()
        store.load("a", (2, 2, 2))
        self.assertEqual(run_script(store, 1, ("count", "a", ALWAYS, "")), [("count", 1)])
        with self.assertRaises(ScriptRefused):
            run_script(store, 1, ("put", "a", (1, 1, 1)))

    def test_refused_in_the_middle(self):
        store = self.filled()
        before = state(store)
        script = [
            ("put", "a", (1, 1, 1)),
            ("change", "a", ("equal", 0, 0), 0, 2),
            ("put", "a", (2, 2, 2)),
            ("put", "c", (2, 2, 2)),
        ]
        with self.assertRaises(ScriptRefused) as caught:
            run_script(store, 0, *script)
        self.assertEqual(caught.exception.at, 2)
        self.assertEqual(state(store), before)

    def test_an_error_goes_on_as_it_is(self):
        store = self.filled()
        before = state(store)
        with self.assertRaises(UnknownTable) as caught:
            run_script(store, 0, ("put", "a", (1, 1, 1)), ("put", "c", (2, 2, 2)), ("put", "a", (1, 1, 1)))
        self.assertEqual(caught.exception.name, "c")
        self.assertEqual(state(store), before)
        self.assertEqual(store.run(0, ("put", "a", (1, 1, 1))), ("put", (1, 1, 1)))
        self.assertEqual(store.heap.fresh, 3)
