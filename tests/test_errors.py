import unittest

from bookstogether import errors

WITH_FIELD = {
    "InvalidName": "name",
    "UnknownTable": "name",
    "UnknownRule": "name",
    "UnknownIndex": "name",
    "UnknownSummary": "name",
    "UnknownNumber": "number",
    "InvalidBook": "part",
    "InvalidTurn": "at",
    "ScriptRefused": "at",
    "InvalidText": "line",
}
WITHOUT_FIELD = ["InvalidRow", "InvalidCondition", "InvalidWorld", "InvalidStatement", "InvalidStore"]
REFUSALS = {"ZeroDivisor": "zero", "HiddenRow": "hidden", "Ambiguous": "ambiguous"}


class TestErrors(unittest.TestCase):
    def test_base_classes(self):
        self.assertEqual(errors.BookError.__bases__, (ValueError,))
        for name in [*WITH_FIELD, *WITHOUT_FIELD, "Refusal"]:
            self.assertEqual(getattr(errors, name).__bases__, (errors.BookError,), name)
        for name in [*REFUSALS, "Duplicate"]:
            self.assertEqual(getattr(errors, name).__bases__, (errors.Refusal,), name)

    def test_fields(self):
        for name, field in WITH_FIELD.items():
            error = getattr(errors, name)("x")
            self.assertEqual(getattr(error, field), "x", name)

    def test_errors_without_field_are_built_without_arguments(self):
        for name in WITHOUT_FIELD:
            self.assertIsInstance(getattr(errors, name)(), errors.BookError)

    def test_told_of_the_refusals(self):
        for name, word in REFUSALS.items():
            self.assertEqual(getattr(errors, name)().told, ("refused", word))
        duplicate = errors.Duplicate("p")
        self.assertEqual(duplicate.rule, "p")
        self.assertEqual(duplicate.told, ("refused", "duplicate", "p"))
