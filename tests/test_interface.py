"""Tests that what the interface lists exists under its name, with its arguments, in its own file."""

import importlib
import inspect
import unittest

FUNCTIONS = {
    "rows": {
        "check_row": "(row)",
        "row_key": "(row)",
        "sorted_rows": "(rows)",
        "all_rows": "()",
        "altered": "(row, column, value)",
    },
    "names": {"is_name": "(name)", "check_name": "(name)"},
    "conditions": {
        "check_condition": "(condition, *, levels=10, quotients=True)",
        "truth": "(condition, row)",
        "atom": "(column, value)",
        "only": "(row)",
    },
    "closed": {
        "outcome": "(condition, row)",
        "outcomes": "(condition)",
        "true_rows": "(condition)",
        "live_rows": "(condition)",
        "escape": "(condition, other)",
        "alike": "(condition, other)",
    },
    "worlds": {
        "group": "(rule, row)",
        "clash": "(rule, row, other)",
        "first_clash": "(rules, row, others)",
    },
    "statements": {"is_question": "(statement)", "check_statement": "(world, statement)"},
    "answers": {"answer": "(question, found)", "upserted": "(row, asked, sets)"},
}

# For each class its arguments, and the methods that stand in it.
CLASSES = {
    ("truth", "Truth"): (
        "(rank)",
        "of from_word value word __and__ __or__ __xor__ __invert__ __eq__ __ne__ __lt__ __le__ __bool__",
    ),
    ("worlds", "World"): ("(tables, rules=())", "__len__ __contains__ __iter__ rules_of rule"),
    ("sights", "Sight"): ("(*rules)", "__call__ hidden"),
    ("heaps", "Heap"): (
        "()",
        "__len__ __contains__ __iter__ __getitem__ __setitem__ put write numbers pairs bag copy",
    ),
}


def signature(thing):
    return str(inspect.signature(thing))


class TestInterface(unittest.TestCase):
    def test_functions(self):
        for name, functions in FUNCTIONS.items():
            module = importlib.import_module(f"bookstogether.{name}")
            for function, arguments in functions.items():
                found = getattr(module, function)
                self.assertEqual(signature(found), arguments, function)
                self.assertEqual(found.__module__, module.__name__, function)

    def test_classes(self):
        for (name, word), (arguments, methods) in CLASSES.items():
            module = importlib.import_module(f"bookstogether.{name}")
            found = getattr(module, word)
            self.assertEqual(signature(found), arguments, word)
            self.assertEqual(found.__module__, module.__name__, word)
            for method in methods.split():
                self.assertIn(method, vars(found), word)
