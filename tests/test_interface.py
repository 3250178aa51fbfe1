"""Tests that what the interface lists exists under its name, with its arguments, in its own file."""

import importlib
import inspect
import unittest

FUNCTIONS = {
    "rows": {
        "check_row": "(row)",
        "row_key": "(row)",
        "sorted_rows": "(rows)",
        "all_rows": "()",
        "altered": "(row, column, value)",
    },
    "names": {"is_name": "(name)", "check_name": "(name)"},
    "conditions": {
        "check_condition": "(condition, *, levels=10, quotients=True)",
        "truth": "(condition, row)",
        "atom": "(column, value)",
        "only": "(row)",
    },
    "closed": {
        "outcome": "(condition, row)",
        "outcomes": "(condition)",
        "true_rows": "(condition)",
        "live_rows": "(condition)",
        "escape": "(condition, other)",
        "alike": "(condition, other)",
    },
    "worlds": {
        "group": "(rule, row)",
        "clash": "(rule, row, other)",
        "first_clash": "(rules, row, others)",
    },
    "statements": {"is_question": "(statement)", "check_statement": "(world, statement)"},
    "answers": {"answer": "(question, found)", "upserted": "(row, asked, sets)"},
    "running": {"everyone": "(table, row)", "run_plainly": "(world, heap, statement, sees)"},
    "stores": {"run_script": "(store, user, *statements)"},
    "words": {"write_row": "(row)", "write_condition": "(condition)", "read_condition": "(text)"},
    "texts": {
        "write_statement": "(statement)",
        "write_world": "(world)",
        "write_store": "(store)",
        "read_statement": "(text)",
        "read_world": "(text)",
        "read_store": "(world, text, sight=None)",
    },
    "upserting": {
        "matched": "(book, rule, row, pairs, *, by_index)",
        "target": "(lists)",
        "upsert_tell": "(book, asked, old, new)",
    },
    "arbiters": {
        "arbiter_gap": "(rule, column, condition, again)",
        "arbiter_bounds": "(rule, column, again)",
    },
    "upsertoutcomes": {
        "upsert_outcomes": "(world, statement, *, sees=None)",
        "parting": "(world, first, second, *, sees=None)",
        "least_names": "(world, statement, *, sees=None)",
        "unsteady": "(world, statement, *, sees=None)",
        "taken_back": "(rows, told)",
    },
    "upsertjudge": {"judge_upserts": "(world, book)"},
    "indexbooks": {"index_group": "(index, row)"},
    "entries": {"due_entries": "(index, heap)"},
    "serving": {"span": "(book, index, condition)"},
    "indexjudge": {"rules_gap": "(world, book)", "judge_indexes": "(world, book)"},
    "indexchoices": {
        "mattering": "(condition)",
        "position_choices": "(count)",
        "least_together": "(book, table, condition)",
        "found_together": "(entries, heap, names, condition)",
    },
    "lockneeds": {
        "compatible": "(mode, other)",
        "meet": "(needs, other)",
        "read_needs": "(book, table, road, numbers)",
        "write_needs": "(book, table, number, nodes, keys)",
    },
    "lockjudge": {
        "matters": "(question, old, new)",
        "unguarded": "(book, question, road, marks)",
        "judge_locks": "(world, book)",
    },
    "lockmeets": {"deed_needs": "(book, deed)", "looser_at": "(book, other)"},
    "lockdeeds": {
        "statement_deeds": "(world, heap, statement)",
        "commute": "(world, heap, first, second)",
    },
    "lockweaving": {
        "weave": "(book, *scripts, turns)",
        "able": "(state, *scripts)",
        "reached": "(state, *scripts)",
        "ways": "(state, *scripts)",
        "finishing": "(state, *scripts, nth=0)",
    },
    "passing": {
        "passes": "(book, user, table, row, condition)",
        "counted": "(book, user, table, rows)",
    },
    "guarding": {"certain": "(condition, *, turned=False)", "guarded": "(book, user, question)"},
}

GENERATORS = {("rows", "all_rows"), ("indexchoices", "position_choices"), ("lockweaving", "reached")}

# For each class its arguments, and the methods that stand in it.
CLASSES = {
    ("truth", "Truth"): (
        "(rank)",
        "of from_word value word __and__ __or__ __xor__ __invert__ __eq__ __ne__ __lt__ __le__ __bool__",
    ),
    ("worlds", "World"): ("(tables, rules=())", "__len__ __contains__ __iter__ rules_of rule"),
    ("sights", "Sight"): ("(*rules)", "__call__ hidden"),
    ("heaps", "Heap"): (
        "()",
        "__len__ __contains__ __iter__ __getitem__ __setitem__ put write numbers pairs bag copy",
    ),
    ("stores", "Store"): ("(world, sight=None)", "__len__ load run bag copy"),
    ("upsertbooks", "UpsertBook"): (
        "(*arbiters, again=True, sees='shown', tells='after')",
        "MOST __len__ __contains__ __iter__ arbiter check lines from_lines",
    ),
    ("indexbooks", "Index"): ("(name, table, column, condition, rule='')", "of_rule as_rule holds"),
    ("indexbooks", "IndexBook"): (
        "(*indexes, writes='both', serves='implied')",
        "MOST of_world from_lines index holder of_table check lines",
    ),
    ("entries", "Entries"): ("(book)", "touches fill write listed numbers twin copy"),
    ("lockbooks", "LockBook"): (
        "(*, read='alone', write='store', marks='holding', checks='key', kept='node', asks='ahead', lasts='end',"
        " clash='wait')",
        "check lines from_lines",
    ),
    ("locktables", "LockTable"): ("(book)", "ask turn_over release clashing held age waiting ring"),
    ("hidingbooks", "HidingBook"): (
        "(*rules, first='hide', told='shown')",
        "MOST __len__ __contains__ __iter__ check lines from_lines",
    ),
}


def signature(thing):
    return str(inspect.signature(thing))


class TestInterface(unittest.TestCase):
    def test_functions(self):
        for name, functions in FUNCTIONS.items():
            module = importlib.import_module(f"bookstogether.{name}")
            for function, arguments in functions.items():
                found = getattr(module, function)
                self.assertEqual(signature(found), arguments, function)
                self.assertEqual(found.__module__, module.__name__, function)
                self.assertEqual(inspect.isgeneratorfunction(found), (name, function) in GENERATORS, function)

    def test_classes(self):
        for (name, word), (arguments, methods) in CLASSES.items():
            module = importlib.import_module(f"bookstogether.{name}")
            found = getattr(module, word)
            self.assertEqual(signature(found), arguments, word)
            self.assertEqual(found.__module__, module.__name__, word)
            for method in methods.split():
                self.assertIn(method, vars(found), word)
