"""Promises 8, 12 and 13: questions due, shortest plain trees and stuck boxes."""

import inspect
import itertools
import random
import time
import unittest

from plainask import deciding
from plainask.bits import Bits
from plainask.boxes import Box
from plainask.deciding import MOST_QUESTIONS, questions_due, shortest_tree, stuck_box
from plainask.judging import first_wrong, fits, lures
from plainask.rules import Rule
from plainask.ties import groups
from plainask.trees import Tree
from tests.judge import groups_in, is_plain_tree, is_stuck, least_length
from tests.samples import (AUCTIONS, GREAT, auction, boxes_inside, first_come, indifferent, majority, plain_rule,
                           plain_rules, small_rules, some_rule, table_of)


def branches_in_order(rows):
    """Tell whether the branches of each question are ordered by the least standings of their cells."""
    if rows[0] == "end":
        return True
    least = [min(cell) for cell, _ in rows[2]]
    return least == sorted(least) and all(branches_in_order(behind) for _, behind in rows[2])


class DecidingTest(unittest.TestCase):
    def check_tree(self, rule, length):
        """Check that the rule has a shortest tree, that it is plain and that it has this length."""
        tree = shortest_tree(rule)
        self.assertIs(type(tree), Tree)
        self.assertEqual(tree.length, length)
        self.assertTrue(fits(rule, tree))
        self.assertIsNone(first_wrong(rule, tree))
        self.assertEqual(lures(rule, tree), [])
        self.assertTrue(branches_in_order(tree.rows))
        return tree

    def check_stuck(self, rule):
        """Check that the rule has a stuck box and no plain tree."""
        box = stuck_box(rule)
        self.assertIs(type(box), Box)
        self.assertLessEqual(set(box), set(rule.full))
        self.assertGreater(max(len(side) for side in box.sides), 1)
        for party in range(rule.parties):
            self.assertEqual(groups(rule, box, party), [box[party]])
        self.assertIsNone(shortest_tree(rule))
        self.assertIsNone(questions_due(rule, rule.full))
        self.assertIsNone(questions_due(rule, box))
        return box


class QuestionsDueTests(DecidingTest):
    def test_a_single_outcome(self):
        for sizes in [(1,), (3,), (2, 3), (1, 1, 1), (2, 2, 2)]:
            rule = indifferent(sizes, [1] * len(list(itertools.product(*map(range, sizes)))), 2)
            self.assertEqual(questions_due(rule, rule.full), 0)
        for rule in small_rules():
            for combination in rule.full:
                self.assertEqual(questions_due(rule, Box([[standing] for standing in combination])), 0)

    def test_by_hand(self):
        self.assertEqual(questions_due(first_come(), first_come().full), 1)
        self.assertIsNone(questions_due(majority(), majority().full))
        self.assertEqual(questions_due(majority(), Box([[0, 1], [1], [0]])), 1)
        self.assertEqual(questions_due(rule=majority(), box=Box([[0, 1], [1], [0, 1]])), 2)
        self.assertEqual(questions_due(majority(), Box([[0, 1], [1], [1]])), 0)

    def test_as_a_search_over_all_questions_finds(self):
        seen = {}
        for rule in [*small_rules(), *plain_rules()]:
            due = questions_due(rule, rule.full)
            self.assertEqual(due, least_length(rule, rule.full.sides))
            seen[due] = seen.get(due, 0) + 1
        for due in (None, 0, 1, 2, 3, 4):
            self.assertGreater(seen.get(due, 0), 1)

    def test_all_boxes_as_a_search_over_all_questions_finds(self):
        for rule in [*small_rules()[::5], *plain_rules()[::6]]:
            known = {}
            for box in boxes_inside(rule):
                expected = least_length(rule, box.sides, known)
                self.assertEqual(questions_due(rule, box), expected)
                self.assertEqual(least_length(rule.cut(box), rule.cut(box).full.sides), expected)

    def test_smaller_boxes_need_no_more(self):
        for rule in plain_rules()[::5]:
            boxes = boxes_inside(rule)
            due = {box.sides: questions_due(rule, box) for box in boxes}
            for one, other in itertools.product(boxes, repeat=2):
                if one <= other:
                    self.assertLessEqual(due[one.sides], due[other.sides])

    def test_standings_of_a_box_keep_their_numbers(self):
        rule, _ = plain_rule(4, (5, 5), 16)
        for box in (Box([[4, 1, 3], [0, 4]]), Box([[2, 4], [1, 2, 3]])):
            self.assertEqual(questions_due(rule, box), questions_due(rule.cut(box), rule.cut(box).full))


class ShortestTreeTests(DecidingTest):
    def test_the_examples_of_the_document(self):
        self.assertEqual(shortest_tree(first_come()).rows, ("ask", 0, (((0,), ("end", 0)), ((1,), ("end", 1)))))
        self.assertEqual(stuck_box(majority()).sides, ((0, 1), (0, 1), (0, 1)))
        self.assertIsNone(shortest_tree(majority()))
        self.assertIsNone(stuck_box(first_come()))

    def test_a_single_outcome_is_an_end(self):
        self.assertEqual(shortest_tree(indifferent((3, 2), [4] * 6, 5)).rows, ("end", 4))

    def test_small_rules(self):
        for rule in [*small_rules(), *plain_rules()]:
            length = least_length(rule, rule.full.sides)
            if length is None:
                self.check_stuck(rule)
            else:
                tree = self.check_tree(rule, length)
                self.assertTrue(is_plain_tree(rule, tree.rows))
                self.assertIsNone(stuck_box(rule))

    def test_most(self):
        self.assertEqual(MOST_QUESTIONS, 100)
        self.assertEqual(inspect.signature(shortest_tree).parameters["most"].default, 100)
        for rule in plain_rules():
            due = questions_due(rule, rule.full)
            for most in (0, 1, due - 1, due, due + 1, 99, 10 ** 9):
                if most < due:
                    self.assertIsNone(shortest_tree(rule, most=most))
                else:
                    self.assertEqual(shortest_tree(rule, most=most).length, due)
            self.assertEqual(shortest_tree(rule=rule).length, due)
        for most in (0, 1, 3, 10 ** 9):
            self.assertIsNone(shortest_tree(majority(), most=most))

    def test_most_goes_by_its_name_only(self):
        with self.assertRaises(TypeError):
            shortest_tree(first_come(), 5)

    def test_the_order_of_questions_matters(self):
        # Party 0 tells which of the parties 1 and 2 decides; any other order asks both of them.
        table = [one if zero == 0 else two for zero, one, two in itertools.product(range(2), repeat=3)]
        tree = self.check_tree(indifferent((2, 2, 2), table, 2), 2)
        self.assertEqual(tree.rows[1], 0)
        table = [one if two == 0 else zero for zero, one, two in itertools.product(range(2), repeat=3)]
        tree = self.check_tree(indifferent((2, 2, 2), table, 2), 2)
        self.assertEqual(tree.rows[1], 2)

    def test_cut_rules(self):
        for rule in plain_rules()[::4]:
            for box in boxes_inside(rule)[::5]:
                self.check_tree(rule.cut(box), questions_due(rule, box))

    def test_two_rules_by_turns(self):
        one, other = plain_rules()[30], plain_rules()[75]
        expected = [shortest_tree(one).rows, shortest_tree(other).rows]
        self.assertNotEqual(*expected)
        for _ in range(3):
            self.assertEqual([shortest_tree(one).rows, shortest_tree(other).rows], expected)
            self.assertEqual([questions_due(one, one.full), questions_due(other, other.full)],
                             [shortest_tree(one).length, shortest_tree(other).length])

    def test_the_rule_stays_as_it_was(self):
        for rule in [*small_rules()[:20], *plain_rules()[:20]]:
            before = (rule.worths, table_of(rule), rule.full.sides, sorted(vars(rule)))
            questions_due(rule, rule.full)
            shortest_tree(rule)
            stuck_box(rule)
            self.assertEqual((rule.worths, table_of(rule), rule.full.sides, sorted(vars(rule))), before)

    def test_great_worths(self):
        for rule in plain_rules()[::3] + small_rules()[::3]:
            for scale, shift in ((10 ** 39, -3 * 10 ** 39), (1, -10 ** 40 + 10), (1, 10 ** 40 - 10)):
                worths = [[[worth * scale + shift for worth in row] for row in rows] for rows in rule.worths]
                other = Rule(worths, table_of(rule))
                due = questions_due(rule, rule.full)
                self.assertEqual(questions_due(other, other.full), due)
                if due is None:
                    self.check_stuck(other)
                else:
                    self.check_tree(other, due)


class StuckBoxTests(DecidingTest):
    def test_small_rules(self):
        seen = 0
        for rule in [*small_rules(), *(some_rule(seed, (3, 3), 2, 0, 1) for seed in range(40))]:
            box = stuck_box(rule)
            self.assertEqual(box is None, least_length(rule, rule.full.sides) is not None)
            stuck_ones = [inner for inner in boxes_inside(rule) if is_stuck(rule, inner.sides)]
            self.assertEqual(box is None, stuck_ones == [])
            if box is not None:
                seen += 1
                self.assertIn(box.sides, [inner.sides for inner in stuck_ones])
                self.check_stuck(rule)
        self.assertGreater(seen, 40)

    def test_a_stuck_box_behind_several_questions(self):
        # The majority rule comes only behind the last of three answers of party 3.
        worths = [[[1, 0, 0], [0, 1, 0]]] * 3 + [[[0, 0, 0]] * 3]
        table = []
        for zero, one, two, last in itertools.product(range(2), range(2), range(2), range(3)):
            table.append(int(zero + one + two > 1) if last == 2 else 2)
        rule = Rule(worths, table)
        box = self.check_stuck(rule)
        self.assertEqual(box.sides[:3], ((0, 1), (0, 1), (0, 1)))
        self.assertIn(2, box[3])

    def test_by_name(self):
        self.assertIsNone(stuck_box(rule=first_come()))


class GreatRulesTests(DecidingTest):
    """Rules at the limits of point 3 are answered too, and soon."""

    def setUp(self):
        before = time.perf_counter()
        self.addCleanup(lambda: self.assertLess(time.perf_counter() - before, 60))

    def check(self, rule):
        due = questions_due(rule, rule.full)
        if due is None:
            self.check_stuck(rule)
        else:
            self.check_tree(rule, due)
            self.assertIsNone(stuck_box(rule))
            self.assertIsNone(shortest_tree(rule, most=due - 1))
        return due

    def test_indifferent_parties(self):
        for sizes in GREAT:
            for outcomes in (1, 2, 60):
                table = table_of(some_rule(8, sizes, outcomes))
                due = self.check(indifferent(sizes, table, outcomes))
                self.assertLessEqual(due, len([size for size in sizes if size > 1]))

    def test_every_party_is_needed(self):
        for sizes in GREAT:
            table = [sum(combination) % 2 for combination in itertools.product(*map(range, sizes))]
            due = self.check(indifferent(sizes, table, 2))
            self.assertEqual(due, len([size for size in sizes if size > 1]))

    def test_random_worths(self):
        for sizes in GREAT:
            for outcomes in (2, 60):
                for most in (1, 10 ** 40 - 1):
                    self.check(some_rule(3, sizes, outcomes, -most, most))

    def test_plain_trees(self):
        for sizes in GREAT:
            for seed in range(4):
                rule, rows = plain_rule(seed, sizes, 60, seed % 2 == 1)
                self.assertLessEqual(rule.outcomes, 60)
                self.assertLessEqual(self.check(rule), Tree(rows).length)

    def test_auctions(self):
        # Whether these are the least lengths, the delay books of the same rules show.
        for sizes, length in AUCTIONS:
            self.assertEqual(self.check(auction(sizes)), length)

    def test_sparse_ties(self):
        source = random.Random(21)
        for sizes in GREAT:
            many = len(list(itertools.product(*map(range, sizes))))
            for share in (0.002, 0.02):
                worths = [[[int(source.random() < share) for _ in range(60)] for _ in range(size)] for size in sizes]
                self.check(Rule(worths, [source.randrange(60) for _ in range(many)]))


class BitsTests(unittest.TestCase):
    """The groups told by bits are those of point 8."""

    def test_small_rules(self):
        for at, rule in enumerate([*small_rules(), *plain_rules()]):
            bits = Bits(rule)
            for box in boxes_inside(rule) if at % 6 == 0 else [rule.full]:
                found = bits.found(box.sides)
                self.assertEqual(sorted(found), sorted({rule(combination) for combination in box}))
                for party in range(rule.parties):
                    told = bits.groups_of(party, box[party], found)
                    self.assertEqual(told, groups(rule, box, party))
                    self.assertEqual(told, groups_in(rule, box.sides, party))

    def test_great_rules(self):
        for sizes in GREAT:
            for rule in (some_rule(2, sizes, 60), plain_rule(2, sizes)[0]):
                bits = Bits(rule)
                for party in range(rule.parties):
                    self.assertEqual(bits.groups_of(party, rule.full[party], bits.found(rule.full.sides)),
                                     groups(rule, rule.full, party))


class InterfaceTests(unittest.TestCase):
    def test_defined_in_the_file(self):
        for name in ("questions_due", "shortest_tree", "stuck_box"):
            self.assertEqual(getattr(deciding, name).__module__, "plainask.deciding")


if __name__ == "__main__":
    unittest.main()
