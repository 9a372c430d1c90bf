"""Promises 7, 10, 11 and 13: boxes at paths, trees that fit, carry out and are plain, lures, parting questions."""

import itertools
import random
import time
import unittest

from plainask.boxes import Box
from plainask.deciding import shortest_tree, stuck_box
from plainask.errors import AskError, BadAnswer
from plainask.judging import box_at, first_wrong, fits, lures, parting
from plainask.rules import Rule
from plainask.trees import Tree
from tests.judge import expected_lures, is_plain_tree, is_stuck, led_along, places
from tests.samples import (boxes_inside, first_come, honest_path, indifferent, majority, plain_rule, plain_rules,
                           small_rules, some_rule, table_of)

NO_BRANCHES = [-1, -2, True, False, None, "0", "", (0,), [], 1.0, 10 ** 30, -10 ** 30]

FIRST_COME_TREE = Tree(("ask", 0, (((0,), ("end", 0)), ((1,), ("end", 1)))))

# Party 0 is asked twice on one path, party 1 on the other.
TWICE = ("ask", 0, (
    ((2, 0), ("ask", 1, (
        ((1,), ("ask", 0, (((2,), ("end", 4)), ((0,), ("end", 0))))),
        ((0, 2), ("end", 1)),
    ))),
    ((1,), ("ask", 1, (((2,), ("end", 3)), ((1, 0), ("end", 2))))),
))


def random_rows(source, rule, sides, questions):
    """The rows of a tree that fits the rule; its outcomes are seldom those of the rule."""
    askable = [party for party, side in enumerate(sides) if len(side) > 1]
    if questions == 0 or not askable:
        return ("end", source.randrange(rule.outcomes + 1))
    party = source.choice(askable)
    side = list(sides[party])
    source.shuffle(side)
    cuts = sorted(source.sample(range(1, len(side)), source.randint(1, len(side) - 1)))
    cells = [side[first:last] for first, last in zip([0, *cuts], [*cuts, len(side)])]
    return ("ask", party, tuple(
        (tuple(sorted(cell)),
         random_rows(source, rule, [*sides[:party], sorted(cell), *sides[party + 1:]], questions - 1))
        for cell in cells))


def fitting():
    """Rules, each with a tree that fits it."""
    source = random.Random(11)
    for rule in small_rules():
        for _ in range(3):
            yield rule, Tree(random_rows(source, rule, rule.full.sides, source.randint(0, 5)))


def changed(rows, path, cells):
    """The rows with these cells for the question at the path."""
    if not path:
        return ("ask", rows[1], tuple((cell, behind) for cell, (_, behind) in zip(cells, rows[2])))
    branches = list(rows[2])
    cell, behind = branches[path[0]]
    branches[path[0]] = (cell, changed(behind, path[1:], cells))
    return ("ask", rows[1], tuple(branches))


class BoxAtTests(unittest.TestCase):
    def test_by_hand(self):
        rule = some_rule(1, (3, 3), 5)
        tree = Tree(TWICE)
        expected = {
            (): ((0, 1, 2), (0, 1, 2)), (0,): ((0, 2), (0, 1, 2)), (0, 0): ((0, 2), (1,)), (0, 0, 0): ((2,), (1,)),
            (0, 0, 1): ((0,), (1,)), (0, 1): ((0, 2), (0, 2)), (1,): ((1,), (0, 1, 2)), (1, 0): ((1,), (2,)),
            (1, 1): ((1,), (0, 1)),
        }
        for path, sides in expected.items():
            box = box_at(rule, tree, path)
            self.assertIs(type(box), Box)
            self.assertEqual(box.sides, sides)
            self.assertEqual(box_at(rule, tree, list(path)).sides, sides)

    def test_every_path_of_trees_that_fit(self):
        for rule, tree in fitting():
            for path, _ in places(tree.rows):
                self.assertEqual(list(box_at(rule, tree, path)), led_along(rule, tree.rows, path))

    def test_a_tree_that_is_a_single_end(self):
        rule = majority()
        self.assertEqual(box_at(rule, Tree(("end", 7)), ()).sides, rule.full.sides)
        for path in ((0,), (1, 0), (-1,), [True]):
            self.refuse(rule, Tree(("end", 7)), path, ())

    def test_a_path_beyond_an_end(self):
        rule = some_rule(1, (3, 3), 5)
        tree = Tree(TWICE)
        for path, part in [((0, 1, 0), (0, 1)), ((0, 1, 0, 0), (0, 1)), ((0, 0, 0, 0), (0, 0, 0)),
                           ((1, 1, 1, 1, 1), (1, 1)), ([1, 0, 5], (1, 0)), ([0, 0, 1, -1, 0], (0, 0, 1))]:
            self.refuse(rule, tree, path, part)

    def test_a_branch_number_that_is_none(self):
        rule = some_rule(1, (3, 3), 5)
        tree = Tree(TWICE)
        for wrong in [*NO_BRANCHES, 2, 3]:
            self.refuse(rule, tree, (wrong,), ())
            self.refuse(rule, tree, [wrong, 0, 0], ())
            self.refuse(rule, tree, (0, wrong), (0,))
            self.refuse(rule, tree, (0, 0, wrong), (0, 0))
            self.refuse(rule, tree, [0, 0, wrong, 0], (0, 0))
            self.refuse(rule, tree, (1, wrong, 7), (1,))
            self.refuse(rule, tree, (0, 0, 1, wrong), (0, 0, 1))

    def test_arguments_stay_as_they_were(self):
        rule = some_rule(1, (3, 3), 5)
        tree = Tree(TWICE)
        path = [0, 0]
        box_at(rule=rule, tree=tree, path=path)
        self.assertEqual([path, tree.rows], [[0, 0], Tree(TWICE).rows])
        self.assertEqual(rule.full.sides, ((0, 1, 2), (0, 1, 2)))

    def refuse(self, rule, tree, path, part):
        with self.assertRaises(BadAnswer) as caught:
            box_at(rule, tree, path)
        self.assertEqual(caught.exception.path, part)
        self.assertIs(type(caught.exception.path), tuple)
        self.assertIsInstance(caught.exception, AskError)


class FitsTests(unittest.TestCase):
    def test_trees_that_fit(self):
        for rule, tree in fitting():
            self.assertIs(fits(rule, tree), True)
        self.assertIs(fits(some_rule(1, (3, 3), 5), Tree(TWICE)), True)
        self.assertIs(fits(some_rule(1, (3, 3, 7), 1), Tree(TWICE)), True)
        self.assertIs(fits(rule=first_come(), tree=FIRST_COME_TREE), True)
        self.assertIs(fits(first_come(), Tree(("end", 12))), True)

    def test_a_standing_less_more_or_another(self):
        seen = 0
        for rule, tree in fitting():
            for path, here in places(tree.rows):
                if here[0] == "end":
                    continue
                cells = [cell for cell, _ in here[2]]
                for wrong in self.wrong_cells(rule, cells, here[1]):
                    seen += 1
                    self.assertIs(fits(rule, Tree(changed(tree.rows, path, wrong))), False)
        self.assertGreater(seen, 1000)

    def wrong_cells(self, rule, cells, party):
        known = {standing for cell in cells for standing in cell}
        for at, cell in enumerate(cells):
            if len(cell) > 1:
                yield [*cells[:at], cell[1:], *cells[at + 1:]]
            others = [other for other in range(rule.sizes[party] + 2) if other not in known] + [10 ** 9]
            for other in others:
                # Whether earlier answers have ruled the other one out, or the rule does not have it.
                yield [*cells[:at], (*cell, other), *cells[at + 1:]]
                yield [*cells[:at], (*cell[1:], other), *cells[at + 1:]]

    def test_earlier_answers_have_ruled_a_standing_out(self):
        rule = some_rule(3, (3, 2), 2)
        inner = ("ask", 0, (((0,), ("end", 0)), ((1, 2), ("end", 1))))
        self.assertTrue(fits(rule, Tree(inner)))
        self.assertFalse(fits(rule, Tree(("ask", 0, (((0,), ("end", 0)), ((1, 2), inner))))))
        again = ("ask", 0, (((1,), ("end", 0)), ((2,), ("end", 1))))
        self.assertTrue(fits(rule, Tree(("ask", 0, (((0,), ("end", 0)), ((1, 2), again))))))
        self.assertFalse(fits(rule, Tree(("ask", 0, (((1, 2), ("end", 0)), ((0,), again))))))
        self.assertTrue(fits(rule, Tree(("ask", 1, (((1,), inner), ((0,), inner))))))

    def test_a_party_that_the_rule_does_not_have(self):
        for party in (2, 3, 10 ** 9):
            wrong = ("ask", party, (((0,), ("end", 0)), ((1,), ("end", 1))))
            self.assertIs(fits(first_come(), Tree(wrong)), False)
            self.assertIs(fits(first_come(), Tree(("ask", 1, (((0,), ("end", 0)), ((1,), wrong))))), False)
        third = Tree(("ask", 2, (((0,), ("end", 0)), ((1,), ("end", 1)))))
        self.assertIs(fits(majority(), third), True)

    def test_rules_of_other_sizes(self):
        tree = Tree(TWICE)
        for sizes in itertools.product((1, 2, 3, 4), repeat=2):
            self.assertIs(fits(some_rule(1, sizes, 5), tree), sizes == (3, 3))
        self.assertIs(fits(some_rule(1, (3,), 5), tree), False)


class FirstWrongTests(unittest.TestCase):
    def test_by_hand(self):
        rule = first_come()
        self.assertIsNone(first_wrong(rule, FIRST_COME_TREE))
        self.assertEqual(first_wrong(rule, Tree(("end", 0))), (1, 0))
        self.assertEqual(first_wrong(rule, Tree(("end", 1))), (0, 0))
        self.assertEqual(first_wrong(rule, Tree(("end", 2))), (0, 0))
        by_one = Tree(("ask", 1, (((0,), ("end", 0)), ((1,), ("end", 1)))))
        self.assertEqual(first_wrong(rule=rule, tree=by_one), (0, 1))

    def test_one_and_several_wrong_combinations(self):
        for rule, tree in fitting():
            every = list(rule.full)
            right = [tree(combination) for combination in every]
            outcomes = max(right) + 2
            self.check(Rule([[[0] * outcomes] * size for size in rule.sizes], right), tree, [])
            for many in (1, 2, 3):
                for wrong in itertools.islice(itertools.combinations(range(len(every)), many), 12):
                    table = [outcome + 1 if at in wrong else outcome for at, outcome in enumerate(right)]
                    other = Rule([[[0] * outcomes] * size for size in rule.sizes], table)
                    self.check(other, tree, [every[at] for at in wrong])

    def check(self, rule, tree, wrong):
        found = first_wrong(rule, tree)
        self.assertEqual(found, wrong[0] if wrong else None)
        if wrong:
            self.assertIs(type(found), tuple)
        self.assertEqual(wrong, [at for at in rule.full if honest_path(tree.rows, at)[1] != rule(at)])


class LuresTests(unittest.TestCase):
    def test_by_hand(self):
        # To party 0, outcome 1 is best in both standings; the last party to speak decides.
        rule = Rule([[[0, 5], [2, 7]], [[3, 3], [3, 3]]], [0, 1, 0, 0])
        first = ("ask", 0, (((1,), ("end", 0)), ((0,), ("ask", 1, (((1,), ("end", 1)), ((0,), ("end", 0)))))))
        self.assertEqual(lures(rule, Tree(first)), [((), 1, 2, 7)])
        second = ("ask", 1, (((0,), ("end", 0)), ((1,), ("ask", 0, (((0,), ("end", 1)), ((1,), ("end", 0)))))))
        self.assertEqual(lures(rule, Tree(second)), [((1,), 1, 2, 7)])
        self.assertEqual(lures(first_come(), FIRST_COME_TREE), [])

    def test_a_promise_that_is_only_as_great_is_no_lure(self):
        rule = Rule([[[4, 4], [4, 3]]], [0, 1])
        tree = Tree(("ask", 0, (((0,), ("end", 0)), ((1,), ("end", 1)))))
        self.assertEqual(lures(rule, tree), [((), 1, 3, 4)])

    def test_trees_that_fit(self):
        seen = 0
        for rule, tree in fitting():
            expected = expected_lures(rule, tree.rows)
            self.assertEqual(expected, sorted(expected))
            found = lures(rule, tree)
            self.assertEqual(found, expected)
            self.assertIs(type(found), list)
            self.assertTrue(all(type(lure) is tuple and type(lure[0]) is tuple for lure in found))
            found.clear()
            self.assertEqual(lures(rule=rule, tree=tree), expected)
            seen += len(expected)
        self.assertGreater(seen, 300)

    def test_the_outcome_is_that_of_the_rule_not_of_the_tree(self):
        rule = Rule([[[0, 9], [9, 0]]], [0, 0])
        tree = Tree(("ask", 0, (((0,), ("end", 1)), ((1,), ("end", 0)))))
        self.assertEqual(lures(rule, tree), [])

    def test_plain_trees_have_no_lures_and_others_have(self):
        for seed in range(12):
            rule, rows = plain_rule(seed, (3, 3, 2), 10)
            self.assertEqual(lures(rule, Tree(rows)), [])
            self.assertTrue(is_plain_tree(rule, rows))
        for rule, tree in fitting():
            plain = first_wrong(rule, tree) is None and lures(rule, tree) == []
            self.assertEqual(plain, is_plain_tree(rule, tree.rows))

    def test_ties_beyond_thirty_digits(self):
        great = 10 ** 40 - 1
        rule = Rule([[[great - 1, great], [-great, -great]]], [0, 1])
        tree = Tree(("ask", 0, (((0,), ("end", 0)), ((1,), ("end", 1)))))
        self.assertEqual(lures(rule, tree), [((), 0, great - 1, great)])

    def test_a_chain_of_a_hundred_questions(self):
        rows = ("end", 0)
        for standing in range(98, -1, -1):
            rows = ("ask", 0, (((standing,), ("end", 0)), (tuple(range(standing + 1, 100)), rows)))
        rule = some_rule(7, (100, 6), 60)
        before = time.perf_counter()
        found = lures(rule, Tree(rows))
        self.assertLess(time.perf_counter() - before, 10)
        self.assertTrue(fits(rule, Tree(rows)))
        self.assertEqual([lure for lure in found if lure[0] == ()],
                         [lure for lure in expected_lures(rule, Tree(rows).rows[:2] + (tuple(
                             (cell, ("end", 0)) for cell, _ in rows[2]),))])


class PartingTests(unittest.TestCase):
    def test_by_hand(self):
        tree = Tree(TWICE)
        for sides, path in [
            ([[0, 1, 2], [0, 1, 2]], ()), ([[0, 1], [1]], ()), ([[0, 2], [0, 1]], (0,)), ([[0, 2], [0, 2]], None),
            ([[0, 2], [1]], (0, 0)), ([[2], [1]], None), ([[1], [1, 0]], None), ([[1], [1, 2]], (1,)),
        ]:
            self.assertEqual(parting(Box(sides), tree), path)
            self.assertEqual(parting(box=Box(sides), tree=tree), path)

    def test_single_combinations_part_nowhere(self):
        for rule, tree in fitting():
            for combination in rule.full:
                self.assertIsNone(parting(Box([[standing] for standing in combination]), tree))

    def test_the_full_box_parts_at_the_root(self):
        for rule, tree in fitting():
            self.assertEqual(parting(rule.full, tree), None if tree.rows[0] == "end" else ())

    def test_all_boxes(self):
        for rule, tree in list(fitting())[::9]:
            for box in boxes_inside(rule):
                paths = {honest_path(tree.rows, combination)[0] for combination in box}
                common = []
                for branches in zip(*paths):
                    if len(set(branches)) > 1:
                        break
                    common.append(branches[0])
                expected = None if len(paths) == 1 else tuple(common)
                self.assertEqual(parting(box, tree), expected)

    def test_stuck_boxes(self):
        seen = 0
        for rule in small_rules():
            stuck = stuck_box(rule)
            if stuck is None:
                continue
            seen += 1
            self.assertTrue(is_stuck(rule, stuck.sides))
            for tree in self.carrying_out(rule):
                self.assertTrue(fits(rule, tree))
                self.assertIsNone(first_wrong(rule, tree))
                path = parting(stuck, tree)
                self.assertIsNotNone(path)
                self.assertIn(path, [lure[0] for lure in lures(rule, tree)])
        self.assertGreater(seen, 30)

    def carrying_out(self, rule):
        """Trees that ask every party for its standing, in several orders."""
        def rows(order, known):
            if not order:
                return ("end", rule(tuple(known[party] for party in range(rule.parties))))
            party, *rest = order
            if rule.sizes[party] == 1:
                return rows(rest, {**known, party: 0})
            return ("ask", party, tuple(((standing,), rows(rest, {**known, party: standing}))
                                        for standing in range(rule.sizes[party])))

        return [Tree(rows(list(order), {})) for order in itertools.permutations(range(rule.parties))]


class WholeTests(unittest.TestCase):
    def test_nothing_is_changed(self):
        for rule in plain_rules()[:20]:
            before = (rule.worths, table_of(rule), rule.full.sides)
            tree = shortest_tree(rule)
            rows = tree.rows
            for _ in range(2):
                self.assertEqual([fits(rule, tree), first_wrong(rule, tree), lures(rule, tree)], [True, None, []])
            self.assertEqual((rule.worths, table_of(rule), rule.full.sides), before)
            self.assertIs(tree.rows, rows)

    def test_many_questions_of_a_great_rule(self):
        table = table_of(some_rule(5, (24, 25), 60))
        rule = indifferent((24, 25), table, 60)
        rows = ("ask", 1, tuple(
            ((one,), ("ask", 0, tuple(((zero,), ("end", rule((zero, one)))) for zero in range(24))))
            for one in range(25)))
        tree = Tree(rows)
        before = time.perf_counter()
        self.assertEqual([fits(rule, tree), first_wrong(rule, tree), lures(rule, tree)], [True, None, []])
        self.assertLess(time.perf_counter() - before, 10)


if __name__ == "__main__":
    unittest.main()
