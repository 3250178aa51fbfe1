import itertools
import unittest

from bookstogether.combining import choices, combination, cover, misfit
from bookstogether.errors import UnknownSummary
from bookstogether.summarybooks import Summary

from tests.samples import ALWAYS, NEVER, ROWS, chances, plain_outcome, random_condition

KNOWN = ("not", ("unknown", 0))
ZERO = ("equal", 0, 0)
BELOW = ("below", 0, 2)
DIVIDING = ("quotient", 1, 0, 1)


def plain_choices(names, signs):
    """All choices, sorted by what the point says."""
    found = []
    for size in range(len(names) + 1):
        level = []
        for places in itertools.combinations(range(len(names)), size):
            for chosen in itertools.product(range(len(signs)), repeat=size):
                level.append(list(zip(places, chosen)))
        found.extend(sorted(level))
    return [tuple((names[place], signs[at]) for place, at in choice) for choice in found]


def plain_share(kind, condition, column, row):
    """The share of a row, told without the program; "refused" where the condition divides by 0."""
    told = plain_outcome(condition, row)
    if told == "error":
        return "refused"
    if told != "true" or (kind != "count" and row[column] is None):
        return None if kind == "greatest" else 0
    return 1 if kind == "count" else row[column]


def plain_misfit(summaries, pairs, question):
    kind = question[0]
    named = {summary.name: summary for summary in summaries}
    for row in ROWS:
        shares = [
            (plain_share(named[name].kind, named[name].condition, named[name].column, row), sign)
            for name, sign in pairs
        ]
        if kind == "greatest":
            told = max((share for share, _ in shares if share is not None), default=None)
        else:
            told = sum(share * sign for share, sign in shares)
        if told != plain_share(kind, question[2], question[3], row):
            return row
    return None


class TestChoices(unittest.TestCase):
    def test_no_names(self):
        self.assertEqual(list(choices([])), [()])
        self.assertEqual(list(choices(())), [()])
        self.assertEqual(list(choices([], signs=(1,))), [()])

    def test_the_order_with_two_signs(self):
        self.assertEqual(list(choices(["a", "b"])), [
            (), (("a", 1),), (("a", -1),), (("b", 1),), (("b", -1),),
            (("a", 1), ("b", 1)), (("a", 1), ("b", -1)), (("a", -1), ("b", 1)), (("a", -1), ("b", -1)),
        ])

    def test_the_order_is_that_of_the_names_and_signs(self):
        self.assertEqual(list(choices(("z", "a"), signs=(-1, 1)))[:5], [
            (), (("z", -1),), (("z", 1),), (("a", -1),), (("a", 1),),
        ])

    def test_one_sign_and_none(self):
        self.assertEqual(list(choices(["a", "b"], signs=(1,))), [(), (("a", 1),), (("b", 1),), (("a", 1), ("b", 1))])
        self.assertEqual(list(choices(["a", "b"], signs=())), [()])

    def test_four_names(self):
        names = ["d", "a", "c", "b"]
        for signs in ((1, -1), (-1, 1), (1,), (-1,)):
            found = list(choices(names, signs=signs))
            self.assertEqual(found, plain_choices(names, signs))
            self.assertEqual(len(found), (len(signs) + 1) ** 4)
        self.assertEqual(names, ["d", "a", "c", "b"])


class TestMisfit(unittest.TestCase):
    SUMMARIES = [
        Summary("all", "a", "count", 0, ALWAYS),
        Summary("zero", "a", "count", 0, ZERO),
        Summary("top", "a", "greatest", 1, BELOW),
        Summary("other", "b", "count", 0, ALWAYS),
    ]

    def test_ordinary_choices(self):
        question = ("count", "a", ("not", ZERO), "")
        # For an unknown value the question's condition is unknown, so that all without zero is too many.
        self.assertEqual(misfit(self.SUMMARIES, (("all", 1), ("zero", -1)), question), (None, None, None))
        question = ("count", "a", ("or", ("unknown", 0), ("not", ZERO)), "")
        self.assertIsNone(misfit(self.SUMMARIES, (("all", 1), ("zero", -1)), question))
        self.assertEqual(misfit(self.SUMMARIES, (("all", 1),), question), (0, None, None))
        self.assertEqual(misfit(self.SUMMARIES, (("all", -1), ("zero", -1)), question), (None, None, None))
        self.assertIsNone(misfit(self.SUMMARIES, (), ("count", "a", NEVER, "")))

    def test_sums(self):
        summaries = [Summary("all", "a", "sum", 0, ALWAYS), Summary("low", "a", "sum", 0, BELOW)]
        question = ("sum", "a", ("equal", 0, 2), 0, "")
        self.assertIsNone(misfit(summaries, (("all", 1), ("low", -1)), question))
        self.assertEqual(misfit(summaries, (("all", 1),), question), (1, None, None))

    def test_counts_and_sums_together(self):
        summaries = [Summary("one", "a", "count", 0, ("equal", 0, 1)), Summary("two", "a", "count", 0, ("equal", 0, 2))]
        summaries.append(Summary("all", "a", "sum", 0, ALWAYS))
        three = (("two", 1), ("all", -1), ("one", 1))
        self.assertEqual(misfit(summaries, three, ("count", "a", NEVER, "")), (2, None, None))
        question = ("count", "a", ("equal", 0, 2), "")
        self.assertIsNone(misfit(summaries, (("two", 1),), question))
        self.assertEqual(misfit(summaries, (("one", -1), ("all", 1)), question), (2, None, None))
        self.assertIsNone(misfit(summaries[::2], (("one", -1), ("all", 1)), ("sum", "a", ("equal", 0, 2), 0, "")))

    def test_greatest(self):
        question = ("greatest", "a", BELOW, 1, "")
        self.assertIsNone(misfit(self.SUMMARIES, (("top", 1),), question))
        self.assertIsNone(misfit(self.SUMMARIES, (("top", -1),), question))
        self.assertEqual(misfit(self.SUMMARIES, (), question), (0, 0, None))
        # No row has a known share: nothing at all fits, and so does no summary.
        self.assertIsNone(misfit(self.SUMMARIES, (), ("greatest", "a", ("unknown", 1), 1, "")))
        self.assertEqual(misfit(self.SUMMARIES, (("top", 1),), ("greatest", "a", NEVER, 1, "")), (0, 0, None))

    def test_a_row_that_refuses_the_question(self):
        question = ("count", "a", ("and", ("equal", 1, 2), DIVIDING), "")
        for pairs in ((), (("all", 1),), (("all", 1), ("zero", -1))):
            self.assertIsNotNone(misfit(self.SUMMARIES, pairs, question))
        # Only the row (0, 1, 2) refuses this question, which finds nothing.
        known = ("and", ("not", ("unknown", 1)), ("not", ("unknown", 2)))
        lone = ("and", ("and", known, ("and", ("equal", 0, 0), ("and", ("equal", 1, 1), ("equal", 2, 2)))), DIVIDING)
        self.assertEqual(misfit(self.SUMMARIES, (), ("count", "a", lone, "")), (0, 1, 2))
        self.assertEqual(misfit(self.SUMMARIES, (), ("greatest", "a", lone, 0, "")), (0, 1, 2))
        self.assertIsNone(misfit(self.SUMMARIES, (), ("count", "a", ("and", NEVER, lone), "")))

    def test_names_that_are_not_usable(self):
        question = ("count", "a", ALWAYS, "")
        for pairs, name in (
            ((("x", 1),), "x"), ((("top", 1),), "top"), ((("other", 1),), "other"), ((("all", 1), ("top", 1)), "top"),
            ((("x", 1), ("top", 1)), "x"), ((("all", 1), ("", -1), ("x", 1)), ""),
        ):
            with self.assertRaises(UnknownSummary) as caught:
                misfit(self.SUMMARIES, pairs, question)
            self.assertEqual(caught.exception.name, name)
        with self.assertRaises(UnknownSummary) as caught:
            misfit(self.SUMMARIES, (("top", 1), ("all", 1)), ("greatest", "a", ALWAYS, 1, ""))
        self.assertEqual(caught.exception.name, "all")
        with self.assertRaises(UnknownSummary):
            misfit([], (("all", 1),), question)

    def test_compared_with_a_plain_search(self):
        for chance in chances(40, "misfit"):
            kind = chance.choice(("count", "sum", "greatest"))
            column = chance.randrange(3)
            summaries = [
                Summary(name, "a", kind, column, random_condition(chance, 3)) for name in ("k", "l")
            ]
            question = (kind, "a", random_condition(chance, 3, quotients=True), column, "")
            for pairs in choices(["k", "l"]):
                asked = question if kind != "count" else question[:3] + ("",)
                self.assertEqual(misfit(summaries, pairs, asked), plain_misfit(summaries, pairs, question))


class TestCombination(unittest.TestCase):
    def test_the_first_choice(self):
        one, two, low = (
            Summary("one", "a", "count", 0, ("equal", 0, 1)), Summary("two", "a", "count", 0, ("equal", 0, 2)),
            Summary("low", "a", "count", 0, BELOW),
        )
        zero = Summary("zero", "a", "count", 0, ZERO)
        question = ("count", "a", ZERO, "by")
        self.assertEqual(combination([one, two, low, zero], question), (("zero", 1),))
        self.assertEqual(combination([one, two, low], question), (("one", -1), ("low", 1)))
        self.assertEqual(combination((low, one), question), (("low", 1), ("one", -1)))
        self.assertIsNone(combination([one, two], question))
        self.assertIsNone(combination([], question))
        self.assertEqual(combination([], ("count", "a", NEVER, "")), ())
        self.assertEqual(combination([zero], ("count", "a", NEVER, "")), ())

    def test_the_signs(self):
        all_rows = Summary("all", "a", "sum", 2, ALWAYS)
        twin = Summary("twin", "a", "sum", 2, ALWAYS)
        self.assertEqual(combination([all_rows, twin], ("sum", "a", ALWAYS, 2, "")), (("all", 1),))
        self.assertEqual(combination([twin, all_rows], ("sum", "a", ALWAYS, 2, "")), (("twin", 1),))

    def test_sums_and_counts_together(self):
        # 2 is a sum of 2 less one row.
        two = Summary("two", "a", "sum", 1, ("equal", 1, 2))
        many = Summary("many", "a", "count", 0, ("equal", 1, 2))
        self.assertEqual(combination([two, many], ("count", "a", ("equal", 1, 2), "")), (("many", 1),))
        self.assertEqual(combination([two, many], ("sum", "a", ("equal", 1, 2), 1, "")), (("two", 1),))
        other = Summary("other", "a", "count", 1, ("or", ("equal", 1, 2), ("equal", 1, 1)))
        found = combination([two, many, other], ("sum", "a", ("below", 0, 0), 1, ""))
        self.assertEqual(found, ())
        question = ("sum", "a", ALWAYS, 1, "")
        self.assertEqual(combination([many, other], question), (("many", 1), ("other", 1)))

    def test_usable_summaries_alone(self):
        top = Summary("top", "a", "greatest", 0, ("equal", 0, 1))
        other = Summary("other", "b", "count", 0, ZERO)
        self.assertIsNone(combination([top, other], ("count", "a", ZERO, "")))
        self.assertIsNone(combination([top], ("sum", "a", ("equal", 0, 1), 0, "")))

    def test_other_questions(self):
        summaries = [Summary("all", "a", "count", 0, ALWAYS)]
        self.assertIsNone(combination(summaries, ("rows", "a", ALWAYS, "")))
        self.assertIsNone(combination(summaries, ("greatest", "a", NEVER, 0, "")))

    def test_a_row_that_refuses(self):
        summaries = [Summary("all", "a", "count", 0, ALWAYS)]
        self.assertIsNone(combination(summaries, ("count", "a", DIVIDING, "")))
        self.assertIsNone(combination(summaries, ("count", "a", ("and", DIVIDING, NEVER), "")))
        self.assertEqual(combination(summaries, ("count", "a", ("and", NEVER, DIVIDING), "")), ())

    def test_compared_with_a_plain_search(self):
        parts = [ALWAYS, ZERO, ("equal", 0, 1), BELOW, ("unknown", 0), KNOWN, ("equal", 0, 2)]
        found = 0
        for chance in chances(60, "combination"):
            kinds = [chance.choice(("count", "sum")) for _ in range(4)]
            summaries = [
                Summary(name, "a", kind, 0, chance.choice(parts)) for name, kind in zip(("k", "l", "m", "n"), kinds)
            ]
            kind = chance.choice(("count", "sum"))
            question = (kind, "a", chance.choice(parts + [("or", ZERO, ("unknown", 0))]), 0, "")
            asked = question if kind == "sum" else question[:3] + ("",)
            wanted = None
            for pairs in plain_choices(["k", "l", "m", "n"], (1, -1)):
                if plain_misfit(summaries, pairs, question) is None:
                    wanted = pairs
                    break
            self.assertEqual(combination(summaries, asked), wanted)
            found += wanted is not None and len(wanted) > 1
        self.assertGreater(found, 5)


class TestCover(unittest.TestCase):
    def test_the_first_choice(self):
        low = Summary("low", "a", "greatest", 1, BELOW)
        two = Summary("two", "a", "greatest", 1, ("equal", 0, 2))
        unknown = Summary("free", "a", "greatest", 1, ("unknown", 0))
        question = ("greatest", "a", ALWAYS, 1, "")
        self.assertEqual(cover([low, two, unknown], question), ("low", "two", "free"))
        self.assertEqual(cover([unknown, low, two], question), ("free", "low", "two"))
        self.assertIsNone(cover([low, two], question))
        self.assertEqual(cover([low, two], ("greatest", "a", KNOWN, 1, "")), ("low", "two"))
        self.assertEqual(cover([low, Summary("all", "a", "greatest", 1, ALWAYS)], question), ("all",))
        self.assertEqual(cover([low], ("greatest", "a", NEVER, 1, "")), ())
        self.assertEqual(cover([], ("greatest", "a", ("unknown", 1), 1, "")), ())
        self.assertIsNone(cover([], question))

    def test_another_column(self):
        # Where both columns have the same value the shares agree, elsewhere not.
        top = Summary("top", "a", "greatest", 0, ("and", ("equal", 0, 1), ("equal", 1, 1)))
        same = ("greatest", "a", ("and", ("equal", 0, 1), ("equal", 1, 1)), 1, "")
        self.assertEqual(cover([top], same), ("top",))
        self.assertIsNone(cover([top], ("greatest", "a", ("equal", 0, 1), 1, "")))

    def test_other_questions_and_summaries(self):
        many = Summary("many", "a", "count", 0, ALWAYS)
        other = Summary("other", "b", "greatest", 0, ALWAYS)
        for question in (("rows", "a", ALWAYS, ""), ("count", "a", NEVER, ""), ("sum", "a", NEVER, 0, "")):
            self.assertIsNone(cover([many], question))
        self.assertIsNone(cover([many, other], ("greatest", "a", ALWAYS, 0, "")))

    def test_a_row_that_refuses(self):
        top = Summary("top", "a", "greatest", 0, ALWAYS)
        self.assertIsNone(cover([top], ("greatest", "a", ("or", DIVIDING, ALWAYS), 0, "")))
        self.assertEqual(cover([top], ("greatest", "a", ("or", ALWAYS, DIVIDING), 0, "")), ("top",))

    def test_four_deep_summaries(self):
        deep = ALWAYS
        for _ in range(5):
            deep = ("and", deep, deep)
        summaries = [Summary(name, "a", "greatest", 0, deep) for name in ("k", "l", "m", "n")]
        self.assertEqual(cover(summaries, ("greatest", "a", ("not", ("unknown", 0)), 0, "")), ("k",))
        self.assertIsNone(cover(summaries, ("greatest", "a", ("below", 0, 1), 0, "")))
        counts = [Summary(name, "a", "count", 0, deep) for name in ("k", "l", "m", "n")]
        self.assertIsNone(combination(counts, ("count", "a", ("below", 0, 1), "")))
