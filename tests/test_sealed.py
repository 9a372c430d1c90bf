"""Promises 19 and 21: lies that pay in sealed rounds."""

import inspect
import itertools
import unittest

from plainask import sealed
from plainask.boxes import Box
from plainask.deciding import questions_due, shortest_tree
from plainask.rules import Rule
from plainask.sealed import LEAST_GAIN, first_lie, lies
from tests.samples import (auction, boxes_inside, first_come, indifferent, majority, plain_rule, plain_rules,
                           small_rules, some_rule, table_of)

LEASTS = [1, 2, 3, 4, 10 ** 9, 10 ** 30]


def expected_lies(rule, least):
    """Point 19, word by word, in any order; sorted after that."""
    found = []
    for party in range(rule.parties):
        for told in range(rule.sizes[party]):
            for combination in rule.full:
                own = combination[party]
                other = (*combination[:party], told, *combination[party + 1:])
                gained = rule.worth(party, own, rule(other)) - rule.worth(party, own, rule(combination))
                if told != own and gained >= least:
                    found.append((combination, party, told))
    return [(party, combination, told) for combination, party, told in sorted(found)]


class LiesTests(unittest.TestCase):
    def test_by_hand(self):
        # In its standing 0, party 0 gains 3 by telling 2 and 1 by telling 1; in its standing 2, party 1 gains 7.
        rule = Rule([[[0, 1, 3], [0, 1, 1], [0, 0, 0]], [[0, 0, 0]]], [0, 1, 2])
        self.assertEqual(list(lies(rule)), [(0, (0, 0), 1), (0, (0, 0), 2)])
        self.assertEqual(list(lies(rule, least=1)), [(0, (0, 0), 1), (0, (0, 0), 2)])
        self.assertEqual(list(lies(rule, least=2)), [(0, (0, 0), 2)])
        self.assertEqual(list(lies(rule=rule, least=3)), [(0, (0, 0), 2)])
        self.assertEqual(list(lies(rule, least=4)), [])
        self.assertEqual([first_lie(rule), first_lie(rule, least=2)], [(0, (0, 0), 1), (0, (0, 0), 2)])
        self.assertIsNone(first_lie(rule=rule, least=4))

    def test_the_order(self):
        # Whatever is told, everybody gains by telling something else.
        rule = Rule([[[0, 1], [1, 0]], [[0, 1], [1, 0]]], [0, 1, 0, 1])
        self.assertEqual(list(lies(rule)), [(1, (0, 0), 1), (1, (0, 1), 0), (1, (1, 0), 1), (1, (1, 1), 0)])
        rule = Rule([[[0, 1], [0, 1]], [[0, 1], [0, 1]]], [0, 1, 1, 0])
        self.assertEqual(list(lies(rule)),
                         [(0, (0, 0), 1), (1, (0, 0), 1), (0, (1, 1), 0), (1, (1, 1), 0)])

    def test_as_the_document_says(self):
        seen = 0
        for rule in [*small_rules(), *(some_rule(seed, (4, 3, 2), 5, -3, 3) for seed in range(10))]:
            for least in LEASTS:
                expected = expected_lies(rule, least)
                for _ in range(2):
                    found = list(lies(rule, least=least))
                    self.assertEqual(found, expected)
                    self.assertEqual(first_lie(rule, least=least), expected[0] if expected else None)
                self.assertTrue(all(type(lie) is tuple and type(lie[1]) is tuple for lie in found))
                seen += len(expected)
            self.assertEqual(list(lies(rule)), expected_lies(rule, 1))
            self.assertEqual(first_lie(rule), next(lies(rule), None))
        self.assertGreater(seen, 1000)

    def test_least(self):
        self.assertEqual(LEAST_GAIN, 1)
        for function in (lies, first_lie):
            self.assertEqual(inspect.signature(function).parameters["least"].default, 1)
            with self.assertRaises(TypeError):
                function(first_come(), 1)

    def test_a_generator(self):
        self.assertTrue(inspect.isgeneratorfunction(lies))
        rule = some_rule(1, (3, 3), 4)
        one, other = lies(rule), lies(rule)
        expected = expected_lies(rule, 1)
        self.assertEqual([next(one), next(one), next(other)], [expected[0], expected[1], expected[0]])
        self.assertEqual(list(one), expected[2:])
        self.assertEqual(list(other), expected[1:])

    def test_great_gains(self):
        great = 10 ** 40 - 1
        rule = Rule([[[-great, great], [0, 0]]], [0, 1])
        for least in (1, 10 ** 30, 2 * great):
            self.assertEqual(list(lies(rule, least=least)), [(0, (0,), 1)])
        self.assertEqual(list(lies(rule, least=2 * great + 1)), [])

    def test_no_lie_pays_where_there_is_a_plain_tree(self):
        for rule in [*plain_rules(), auction((4, 5)), plain_rule(1, (8, 8, 9))[0], auction((3, 3, 3))]:
            self.assertIsNotNone(shortest_tree(rule))
            self.assertEqual(list(lies(rule)), [])
            self.assertIsNone(first_lie(rule))

    def test_no_lie_pays_in_boxes_with_a_plain_tree(self):
        seen = 0
        for rule in small_rules():
            for box in boxes_inside(rule)[::3]:
                if len(list(box)) > 1 and questions_due(rule, box) is not None:
                    seen += 1
                    self.assertIsNone(first_lie(rule.cut(box)))
        self.assertGreater(seen, 50)

    def test_the_majority_rule_has_neither(self):
        self.assertIsNone(first_lie(majority()))
        self.assertIsNone(shortest_tree(majority()))
        self.assertIsNone(first_lie(majority().cut(Box([[1, 0], [1], [0, 1]]))))

    def test_nothing_is_changed(self):
        rule = some_rule(1, (3, 3), 4)
        before = (rule.worths, table_of(rule), rule.full.sides)
        list(lies(rule))
        first_lie(rule)
        self.assertEqual((rule.worths, table_of(rule), rule.full.sides), before)

    def test_great_rules(self):
        for sizes in ((24, 25), (5, 120), (2, 2, 2, 2, 2, 2, 3, 3)):
            rule = some_rule(9, sizes, 60)
            self.assertEqual(list(lies(rule, least=3)), expected_lies(rule, 3))
            many = len(list(itertools.product(*map(range, sizes))))
            self.assertIsNone(first_lie(indifferent(sizes, [0] * many, 60)))


class InterfaceTests(unittest.TestCase):
    def test_defined_in_the_file(self):
        for name in ("lies", "first_lie"):
            self.assertEqual(getattr(sealed, name).__module__, "plainask.sealed")


if __name__ == "__main__":
    unittest.main()
