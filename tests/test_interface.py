"""Tests that what the interface lists exists under its name, with its arguments, in its own file."""

import importlib
import inspect
import unittest

FUNCTIONS = {
    "rows": {
        "check_row": "(row)",
        "row_key": "(row)",
        "sorted_rows": "(rows)",
        "all_rows": "()",
        "altered": "(row, column, value)",
    },
    "names": {"is_name": "(name)", "check_name": "(name)"},
    "conditions": {
        "check_condition": "(condition, *, levels=10, quotients=True)",
        "truth": "(condition, row)",
        "atom": "(column, value)",
        "only": "(row)",
    },
    "closed": {
        "outcome": "(condition, row)",
        "outcomes": "(condition)",
        "true_rows": "(condition)",
        "live_rows": "(condition)",
        "escape": "(condition, other)",
        "alike": "(condition, other)",
    },
    "worlds": {
        "group": "(rule, row)",
        "clash": "(rule, row, other)",
        "first_clash": "(rules, row, others)",
    },
    "statements": {"is_question": "(statement)", "check_statement": "(world, statement)"},
    "answers": {"answer": "(question, found)", "upserted": "(row, asked, sets)"},
    "running": {"everyone": "(table, row)", "run_plainly": "(world, heap, statement, sees)"},
    "stores": {"run_script": "(store, user, *statements)"},
    "words": {"write_row": "(row)", "write_condition": "(condition)", "read_condition": "(text)"},
    "texts": {
        "write_statement": "(statement)",
        "write_world": "(world)",
        "write_store": "(store)",
        "read_statement": "(text)",
        "read_world": "(text)",
        "read_store": "(world, text, sight=None)",
    },
    "upserting": {
        "matched": "(book, rule, row, pairs, *, by_index)",
        "target": "(lists)",
        "upsert_tell": "(book, asked, old, new)",
    },
    "arbiters": {
        "arbiter_gap": "(rule, column, condition, again)",
        "arbiter_bounds": "(rule, column, again)",
    },
    "upsertoutcomes": {
        "upsert_outcomes": "(world, statement, *, sees=None)",
        "parting": "(world, first, second, *, sees=None)",
        "least_names": "(world, statement, *, sees=None)",
        "unsteady": "(world, statement, *, sees=None)",
        "taken_back": "(rows, told)",
    },
    "upsertjudge": {"judge_upserts": "(world, book)"},
    "indexbooks": {"index_group": "(index, row)"},
    "entries": {"due_entries": "(index, heap)"},
    "serving": {"span": "(book, index, condition)"},
    "indexjudge": {"rules_gap": "(world, book)", "judge_indexes": "(world, book)"},
    "indexchoices": {
        "mattering": "(condition)",
        "position_choices": "(count)",
        "least_together": "(book, table, condition)",
        "found_together": "(entries, heap, names, condition)",
    },
    "lockneeds": {
        "compatible": "(mode, other)",
        "meet": "(needs, other)",
        "read_needs": "(book, table, road, numbers)",
        "write_needs": "(book, table, number, nodes, keys)",
    },
    "lockjudge": {
        "matters": "(question, old, new)",
        "unguarded": "(book, question, road, marks)",
        "judge_locks": "(world, book)",
    },
    "lockmeets": {"deed_needs": "(book, deed)", "looser_at": "(book, other)"},
    "lockdeeds": {
        "statement_deeds": "(world, heap, statement)",
        "commute": "(world, heap, first, second)",
    },
    "lockweaving": {
        "weave": "(book, *scripts, turns)",
        "able": "(state, *scripts)",
        "reached": "(state, *scripts)",
        "ways": "(state, *scripts)",
        "finishing": "(state, *scripts, nth=0)",
    },
    "passing": {
        "passes": "(book, user, table, row, condition)",
        "counted": "(book, user, table, rows)",
    },
    "guarding": {"certain": "(condition, *, turned=False)", "guarded": "(book, user, question)"},
    "viewing": {
        "view": "(sight, user, heap, table)",
        "seem_alike": "(world, sight, user, heap, other)",
        "ask_table": "(book, user, heap, question)",
        "revealing": "(book, user, question, *, looks=False)",
        "exposed": "(book, user, table)",
        "probe": "(table, row)",
        "parting_question": "(world, book, user, heap, other, *, looks=False)",
    },
    "evening": {
        "uneven": "(world, sight)",
        "evened": "(world, sight, user, table)",
        "wider": "(world, first, second)",
    },
    "hidingjudge": {"judge_hiding": "(world, book)"},
    "looking": {
        "look_count": "(book, looked, found)",
        "claimed": "(book, name)",
        "exceeds": "(book, name, span, looks)",
    },
    "packing": {
        "row_groups": "(world, table, row)",
        "fullest": "(world, table, rows, *, size)",
        "most_looks": "(world, table, rows, *, size)",
        "guard": "(world, table, rows)",
    },
    "roads": {
        "road_rows": "(column, condition, span=(None, 0, 1, 2))",
        "best_road": "(world, table, roads, *, size)",
        "claim_gap": "(world, table, column, condition, most)",
        "least_claim": "(world, table, column, condition)",
        "claim_rules": "(world, table, column, condition, most)",
    },
    "lookjudge": {"counts_gap": "(condition)", "judge_looks": "(world, book)"},
    "summarybooks": {"share_at": "(question, row)", "greatest_known": "(shares)"},
    "likeness": {"serves": "(book, summary, sight, user, question)"},
    "combining": {
        "choices": "(names, *, signs=(1, -1))",
        "misfit": "(summaries, pairs, question)",
        "combination": "(summaries, question)",
        "cover": "(summaries, question)",
    },
    "summaryjudge": {"judge_summaries": "(world, book)"},
    "followers": {"apply_unit": "(world, heap, unit, *, totals=None, keepers=())"},
    "logjudge": {"judge_log": "(world, book)"},
    "logplays": {
        "play": "(world, book, steps)",
        "goes_wrong": "(world, book, steps)",
        "least_play": "(world, book)",
        "replayed": "(world, units)",
        "shortened": "(units)",
    },
    "copyjudge": {"judge_copies": "(world, book)", "least_marks": "(promises)"},
    "histories": {"least_history": "(book)"},
    "shelves": {"shelf_of": "(world, books, heap)"},
    "deeds": {"carry_out": "(shelf, user, statement, road)"},
    "needing": {"statement_needs": "(shelf, user, statement, road)"},
    "turns": {"check_turn": "(world, turn, at)", "write_turn": "(turn)"},
    "dues": {"desk_faults": "(desk)", "story_faults": "(world, books, store, story)"},
    "meetings": {"meet_books": "(world, books, first, second)"},
    "judging": {"judge": "(world, books)"},
    "meetingstories": {"least_story": "(world, books, parts, finding)"},
    "wholetexts": {"write_whole": "(world, books, store, story)", "read_whole": "(text)"},
}

GENERATORS = {
    ("rows", "all_rows"), ("indexchoices", "position_choices"), ("lockweaving", "reached"), ("viewing", "exposed"),
    ("combining", "choices"),
}

# For each class its arguments, and the methods that stand in it.
CLASSES = {
    ("truth", "Truth"): (
        "(rank)",
        "of from_word value word __and__ __or__ __xor__ __invert__ __eq__ __ne__ __lt__ __le__ __bool__",
    ),
    ("worlds", "World"): ("(tables, rules=())", "__len__ __contains__ __iter__ rules_of rule"),
    ("sights", "Sight"): ("(*rules)", "__call__ hidden"),
    ("heaps", "Heap"): (
        "()",
        "__len__ __contains__ __iter__ __getitem__ __setitem__ put write numbers pairs bag copy",
    ),
    ("stores", "Store"): ("(world, sight=None)", "__len__ load run bag copy"),
    ("upsertbooks", "UpsertBook"): (
        "(*arbiters, again=True, sees='shown', tells='after')",
        "MOST __len__ __contains__ __iter__ arbiter check lines from_lines",
    ),
    ("indexbooks", "Index"): ("(name, table, column, condition, rule='')", "of_rule as_rule holds"),
    ("indexbooks", "IndexBook"): (
        "(*indexes, writes='both', serves='implied')",
        "MOST of_world from_lines index holder of_table check lines",
    ),
    ("entries", "Entries"): ("(book)", "touches fill write listed numbers twin copy"),
    ("lockbooks", "LockBook"): (
        "(*, read='alone', write='store', marks='holding', checks='key', kept='node', asks='ahead', lasts='end',"
        " clash='wait')",
        "check lines from_lines",
    ),
    ("locktables", "LockTable"): ("(book)", "ask turn_over release clashing held age waiting ring"),
    ("hidingbooks", "HidingBook"): (
        "(*rules, first='hide', told='shown')",
        "MOST __len__ __contains__ __iter__ check lines from_lines",
    ),
    ("evening", "EvenSight"): ("(world, sight)", "__call__"),
    ("lookbooks", "LookBook"): ("(*claims, tells=False, counts='looked')", "MOST from_lines check lines"),
    ("summarybooks", "Summary"): ("(name, table, kind, column, condition)", "question share due_amount"),
    ("summarybooks", "SummaryBook"): (
        "(*summaries, edges=(), alike='shown', undo='difference', greatest='write')",
        "MOST summary of_table check lines from_lines",
    ),
    ("totals", "Totals"): (
        "(book, heap)",
        "fill settle write add restore current is_open saved changes differences",
    ),
    ("totals", "GreatestOnly"): ("(totals)", "write"),
    ("joining", "Join"): ("(first, second, *, summed)", "fill write pairs total peak"),
    ("logbooks", "LogBook"): (
        "(*, when='end', what='image', kept='own', confirm='with', cut='never')",
        "WHEN WHAT KEPT CONFIRM CUT from_lines check lines",
    ),
    ("logs", "Log"): ("(book)", "begin wrote undone end back cut __len__ script_count unit"),
    ("followers", "Follower"): ("(log, world, heap, totals, keepers)", "applied follow confirm stop catch_up"),
    ("copybooks", "CopyBook"): (
        "(*, served=False, marks=(), promises=(), hides=True, indexes='own', summaries='own')",
        "INDEXES SUMMARIES kept_by from_lines check lines",
    ),
    ("sessions", "Sessions"): ("(book)", "ended answered mark lets broken"),
    ("histories", "History"): ("(book, *, copies=2)", "__call__ run broken as_promised __len__ __iter__"),
    ("bookshelf", "Books"): (
        "(*, upserts=None, indexes=None, locks=None, hiding=None, looks=None, summaries=None, log=None, copies=None)",
        "book only altered check lines",
    ),
    ("shelves", "Shelf"): ("(world, books, heap, entries, totals)", "road ask write"),
    ("weaving", "Main"): ("(world, books, heap, log)", "do end back order"),
    ("desks", "Desk"): ("(world, books, store)", "__call__ run __len__ __iter__"),
    ("judging", "Verdict"): ("(findings, paper)", "right found_in __len__ __iter__"),
}

# The arguments of methods, without the first one.
METHODS = {
    ("heaps", "Heap", "write"): "(table, number, row)",
    ("entries", "Entries", "write"): "(table, number, old, new)",
    ("entries", "Entries", "twin"): "(name, row, number)",
    ("locktables", "LockTable", "ask"): "(user, needs)",
    ("locktables", "LockTable", "clashing"): "(user, needs)",
    ("evening", "EvenSight", "__call__"): "(user, table, row)",
    ("summarybooks", "Summary", "due_amount"): "(rows)",
    ("totals", "Totals", "write"): "(table, number, old, new)",
    ("totals", "Totals", "changes"): "(table, old, new)",
    ("totals", "Totals", "differences"): "(table, old, new)",
    ("totals", "Totals", "add"): "(name, difference)",
    ("totals", "Totals", "restore"): "(name, pair)",
    ("totals", "GreatestOnly", "write"): "(table, number, old, new)",
    ("joining", "Join", "fill"): "(heap)",
    ("joining", "Join", "write"): "(table, number, old, new)",
    ("logs", "Log", "wrote"): "(script, statement, changes)",
    ("logs", "Log", "undone"): "(script, changes)",
    ("logs", "Log", "script_count"): "(applied)",
    ("sessions", "Sessions", "ended"): "(user, position, wrote)",
    ("sessions", "Sessions", "broken"): "(user, position)",
    ("histories", "History", "__call__"): "(event)",
    ("histories", "History", "run"): "(*events)",
    ("bookshelf", "Books", "book"): "(part)",
    ("bookshelf", "Books", "only"): "(*parts)",
    ("bookshelf", "Books", "altered"): "(**books)",
    ("shelves", "Shelf", "road"): "(user, question)",
    ("shelves", "Shelf", "ask"): "(user, question, road)",
    ("shelves", "Shelf", "write"): "(table, number, old, new, *, kept=True)",
    ("weaving", "Main", "do"): "(user, statement, road)",
    ("weaving", "Main", "order"): "()",
    ("desks", "Desk", "__call__"): "(turn)",
    ("desks", "Desk", "run"): "(*turns)",
    ("judging", "Verdict", "found_in"): "(*parts)",
}


def signature(thing):
    return str(inspect.signature(thing))


class TestInterface(unittest.TestCase):
    def test_functions(self):
        for name, functions in FUNCTIONS.items():
            module = importlib.import_module(f"bookstogether.{name}")
            for function, arguments in functions.items():
                found = getattr(module, function)
                self.assertEqual(signature(found), arguments, function)
                self.assertEqual(found.__module__, module.__name__, function)
                self.assertEqual(inspect.isgeneratorfunction(found), (name, function) in GENERATORS, function)

    def test_classes(self):
        for (name, word), (arguments, methods) in CLASSES.items():
            module = importlib.import_module(f"bookstogether.{name}")
            found = getattr(module, word)
            self.assertEqual(signature(found), arguments, word)
            self.assertEqual(found.__module__, module.__name__, word)
            for method in methods.split():
                self.assertIn(method, vars(found), word)

    def test_methods(self):
        for (name, word, method), arguments in METHODS.items():
            found = getattr(importlib.import_module(f"bookstogether.{name}"), word)
            self.assertEqual(signature(getattr(found, method)).replace("self, ", "").replace("(self)", "()"), arguments,
                             (word, method))
