"""Promise 1: the error classes and their fields."""

import unittest

from plainask.errors import AskError, BadAnswer, BadBox, BadRow, BadRule, BadTree, BadTurn

SAMPLES = [
    (BadRule, lambda: BadRule("worths")),
    (BadBox, lambda: BadBox("no side")),
    (BadTree, lambda: BadTree((0, 1))),
    (BadAnswer, lambda: BadAnswer((2,))),
    (BadTurn, lambda: BadTurn(3)),
    (BadRow, lambda: BadRow(4)),
]


class ErrorTests(unittest.TestCase):
    def test_each_is_an_ask_error_and_a_value_error(self):
        for kind, make in SAMPLES:
            self.assertTrue(issubclass(kind, AskError), kind)
            self.assertTrue(issubclass(kind, ValueError), kind)
            with self.assertRaises(AskError):
                raise make()
        self.assertTrue(issubclass(AskError, ValueError))

    def test_none_is_one_of_the_others(self):
        for kind, make in SAMPLES:
            for other, _ in SAMPLES:
                self.assertEqual(isinstance(make(), other), kind is other, (kind, other))

    def test_base_is_none_of_the_others(self):
        for kind, _ in SAMPLES:
            self.assertNotIsInstance(AskError("x"), kind)

    def test_fields(self):
        self.assertEqual(BadRule("worths").part, "worths")
        self.assertEqual(BadRule("table").part, "table")
        self.assertEqual(BadTree(()).path, ())
        self.assertEqual(BadTree((0, 1)).path, (0, 1))
        self.assertEqual(BadAnswer(()).path, ())
        self.assertEqual(BadAnswer((5, 0)).path, (5, 0))
        self.assertEqual(BadTurn(0).index, 0)
        self.assertEqual(BadTurn(7).index, 7)
        self.assertEqual(BadRow(1).row, 1)
        self.assertEqual(BadRow(12).row, 12)

    def test_fields_by_name(self):
        self.assertEqual(BadRule(part="table").part, "table")
        self.assertEqual(BadTree(path=(1,)).path, (1,))
        self.assertEqual(BadAnswer(path=(1,)).path, (1,))
        self.assertEqual(BadTurn(index=2).index, 2)
        self.assertEqual(BadRow(row=3).row, 3)

    def test_each_object_has_fields_of_its_own(self):
        first, second = BadRow(1), BadRow(2)
        self.assertEqual((first.row, second.row), (1, 2))

    def test_each_has_a_message(self):
        for kind, make in SAMPLES:
            self.assertTrue(str(make()), kind)

    def test_classes_stand_in_their_file(self):
        for kind in [AskError] + [kind for kind, _ in SAMPLES]:
            self.assertEqual(kind.__module__, "plainask.errors")


if __name__ == "__main__":
    unittest.main()
