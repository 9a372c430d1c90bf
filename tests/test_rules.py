"""Promises 1, 3 and 5: rules, what they refuse, and cutting them."""

import copy
import itertools
import unittest

from plainask.boxes import Box
from plainask.errors import AskError, BadAnswer, BadBox, BadRow, BadRule, BadTree, BadTurn
from plainask.rules import Rule
from tests.samples import boxes_inside, first_come, majority, small_rules, some_rule

# None of these is an integer.
NO_INTEGERS = [True, False, None, "0", "", (0,), (), [1], 1.0]

WORTHS = [[[5, 0, -2], [1, 2, 3]], [[7, 8, 9]], [[0, 1, 0], [4, 4, 4], [-1, 0, 10 ** 39]]]
TABLE = [0, 1, 2, 2, 1, 0]


def good_rule():
    return Rule(WORTHS, TABLE)


def tuples(value):
    """The lists as tuples, at any depth."""
    return tuple(tuples(item) for item in value) if isinstance(value, (list, tuple)) else value


class RuleTests(unittest.TestCase):
    def check_good_rule(self, rule):
        self.assertEqual((rule.parties, rule.outcomes, rule.sizes), (3, 3, (2, 1, 3)))
        self.assertIs(type(rule.sizes), tuple)
        self.assertIsInstance(rule.full, Box)
        self.assertEqual(rule.full.sides, ((0, 1), (0,), (0, 1, 2)))
        self.assertEqual([rule(combination) for combination in rule.full], TABLE)
        for party, rows in enumerate(WORTHS):
            for standing, row in enumerate(rows):
                self.assertEqual([rule.worth(party, standing, outcome) for outcome in range(3)], row)

    def test_all_that_a_rule_has(self):
        rule = good_rule()
        self.check_good_rule(rule)
        self.check_good_rule(rule)

    def test_outcomes_follow_the_order_of_the_combinations(self):
        rule = good_rule()
        self.assertEqual([rule((0, 0, 0)), rule((0, 0, 2)), rule((1, 0, 0)), rule((1, 0, 2))], [0, 2, 2, 0])

    def test_tuples_are_the_same_as_lists(self):
        self.check_good_rule(Rule(tuples(WORTHS), tuple(TABLE)))
        self.check_good_rule(Rule([tuple(rows) for rows in WORTHS], TABLE))
        self.check_good_rule(Rule(tuple([tuples(rows) for rows in WORTHS]), TABLE))

    def test_parameters_by_name(self):
        rule = Rule(table=TABLE, worths=WORTHS)
        self.check_good_rule(rule)
        self.assertEqual(rule(combination=(1, 0, 1)), 1)
        self.assertEqual(rule.worth(outcome=2, standing=0, party=1), 9)
        self.assertEqual(rule.cut(box=Box([[1], [0], [0]])).sizes, (1, 1, 1))

    def test_the_smallest_rule(self):
        rule = Rule([[[0]]], [0])
        self.assertEqual((rule.parties, rule.outcomes, rule.sizes, rule.full.sides), (1, 1, (1,), ((0,),)))
        self.assertEqual(rule((0,)), 0)
        self.assertEqual(rule.worth(0, 0, 0), 0)

    def test_every_size_that_the_document_names(self):
        for sizes, outcomes in [((120,), 60), ((120, 5), 60), ((5, 120), 3), ((2,) * 8, 4), ((1,) * 8, 1),
                                ((1, 120, 1, 5), 2), ((2, 3, 2, 5, 1, 2, 1, 5), 60), ((24, 25), 60)]:
            many = len(list(itertools.product(*[range(size) for size in sizes])))
            table = [(7 * at + at // 3) % outcomes for at in range(many)]
            worths = [[[party * standing - outcome for outcome in range(outcomes)] for standing in range(size)]
                      for party, size in enumerate(sizes)]
            rule = Rule(worths, table)
            self.assertEqual((rule.parties, rule.outcomes, rule.sizes), (len(sizes), outcomes, sizes))
            self.assertEqual(rule.full.sides, tuple(tuple(range(size)) for size in sizes))
            every = itertools.product(*[range(size) for size in sizes])
            self.assertEqual([rule(combination) for combination in every], table)
            last = len(sizes) - 1
            self.assertEqual(rule.worth(last, sizes[last] - 1, outcomes - 1), last * (sizes[last] - 1) - outcomes + 1)

    def test_worths_of_forty_digits_and_below_0(self):
        large = 10 ** 40 - 1
        rule = Rule([[[large, -large, large - 1]]], [1])
        self.assertEqual([rule.worth(0, 0, outcome) for outcome in range(3)], [large, -large, large - 1])
        longer = 10 ** 60
        self.assertEqual(Rule([[[longer]]], [0]).worth(0, 0, 0), longer)

    def test_later_changes_to_the_lists_have_no_effect(self):
        worths, table = copy.deepcopy(WORTHS), list(TABLE)
        rule = Rule(worths, table)
        worths[0][0][0] = 99
        worths[2][1].append(7)
        worths[1].append([1, 1, 1])
        worths[0][1] = [0, 0, 0]
        worths.append([[3, 3, 3]])
        table[0] = 2
        table.append(1)
        self.check_good_rule(rule)

    def test_two_rules_do_not_affect_each_other(self):
        worths, table = copy.deepcopy(WORTHS), list(TABLE)
        first = Rule(worths, table)
        worths[0][0][0] = 99
        table[0] = 2
        second = Rule(worths, table)
        self.check_good_rule(first)
        self.assertEqual([second((0, 0, 0)), second.worth(0, 0, 0)], [2, 99])
        self.check_good_rule(first)

    def test_parties_that_share_a_list(self):
        rows = [[1, 0], [0, 1]]
        rule = Rule([rows, rows], [0, 1, 1, 0])
        rows[0][0] = 5
        self.assertEqual([rule.worth(0, 0, 0), rule.worth(1, 0, 0)], [1, 1])

    def test_no_argument_is_modified(self):
        worths, table = copy.deepcopy(WORTHS), list(TABLE)
        rule = Rule(worths, table)
        box = Box([[1], [0], [0, 2]])
        rule.cut(box)
        self.assertEqual((worths, table), (WORTHS, TABLE))
        self.assertEqual(box.sides, ((1,), (0,), (0, 2)))


class RefusalTests(unittest.TestCase):
    def check_refused(self, part, worths, table):
        with self.assertRaises(BadRule, msg=(worths, table)) as caught:
            Rule(worths, table)
        self.assertEqual(caught.exception.part, part, (worths, table))
        self.assertIsInstance(caught.exception, AskError)
        self.assertIsInstance(caught.exception, ValueError)
        for other in (BadBox, BadTree, BadAnswer, BadTurn, BadRow):
            self.assertNotIsInstance(caught.exception, other)

    def test_no_party(self):
        for worths in ([], ()):
            for table in ([], [0], [0, 0]):
                self.check_refused("worths", worths, table)

    def test_a_party_without_a_standing(self):
        for worths in ([[]], [()], [[], [[1]]], [[[1]], []], [[[1]], [], [[1]]]):
            for table in ([], [0]):
                self.check_refused("worths", worths, table)

    def test_rows_without_an_outcome(self):
        for worths in ([[[]]], [[[], []]], [[[]], [[]]], [[()]]):
            for table in ([], [0], [0, 0]):
                self.check_refused("worths", worths, table)

    def test_rows_of_unlike_length(self):
        for worths in ([[[1], [1, 2]]], [[[1, 2], [1]]], [[[1]], [[1, 2]]], [[[1, 2]], [[1]]], [[[1], []]],
                       [[[], [1]]], [[[1]], [[]]], [[[1, 2], [1, 2]], [[1, 2], [1, 2], [1, 2, 3]]]):
            many = 1
            for rows in worths:
                many *= len(rows)
            self.check_refused("worths", worths, [0] * many)

    def test_a_worth_that_is_no_integer_wherever_it_stands(self):
        for wrong in NO_INTEGERS:
            for party, standing, outcome in [(0, 0, 0), (0, 0, 2), (0, 1, 1), (1, 0, 0), (2, 2, 2), (2, 0, 1)]:
                worths = copy.deepcopy(WORTHS)
                worths[party][standing][outcome] = wrong
                self.check_refused("worths", worths, TABLE)

    def test_no_list_where_one_belongs(self):
        for wrong in (None, 3, True, "abc"):
            self.check_refused("worths", [wrong], [0])
            self.check_refused("worths", [[wrong]], [0])
            self.check_refused("worths", [[[1], wrong]], [0, 0])
            self.check_refused("worths", wrong, [0])
            self.check_refused("table", [[[1]]], wrong)

    def test_an_entry_too_few_or_too_many(self):
        for table in ([], TABLE[:-1], TABLE + [0], TABLE * 2, (), tuple(TABLE[1:])):
            self.check_refused("table", WORTHS, table)

    def test_an_entry_that_is_no_outcome_wherever_it_stands(self):
        for wrong in [-1, 3, 4, 10 ** 9, -10 ** 9] + NO_INTEGERS:
            for at in (0, 1, 5):
                table = list(TABLE)
                table[at] = wrong
                self.check_refused("table", WORTHS, table)
                self.check_refused("table", tuples(WORTHS), tuple(table))

    def test_true_and_false_where_they_would_be_equal_to_outcomes(self):
        for wrong in (True, False):
            self.check_refused("table", [[[1, 0]], [[1, 0], [0, 1]]], [wrong, wrong])
            self.check_refused("worths", [[[wrong, 0]]], [0])

    def test_worths_come_first_if_both_are_invalid(self):
        for worths in ([], [[]], [[[]]], [[[1], [1, 2]]], [[[None]]], [[[1, True], [1, 2]]]):
            for table in ([], [-1], [None], [0] * 7):
                self.check_refused("worths", worths, table)

    def test_a_table_for_far_too_many_combinations(self):
        worths = [[[0]] * 120] * 8
        self.check_refused("table", worths, [0] * 600)

    def test_a_good_rule_before_and_after(self):
        before = good_rule()
        self.check_refused("table", WORTHS, [])
        self.check_refused("worths", [], TABLE)
        after = good_rule()
        for rule in (before, after):
            self.assertEqual([rule(combination) for combination in rule.full], TABLE)


class CutTests(unittest.TestCase):
    def test_what_a_cut_rule_is(self):
        rule = good_rule()
        cut = rule.cut(Box([[1], [0], [2, 0]]))
        self.assertIsInstance(cut, Rule)
        self.assertEqual((cut.parties, cut.outcomes, cut.sizes), (3, 3, (1, 1, 2)))
        self.assertEqual(cut.full.sides, ((0,), (0,), (0, 1)))
        self.assertEqual([cut(combination) for combination in cut.full], [2, 0])
        self.assertEqual([cut.worth(0, 0, outcome) for outcome in range(3)], WORTHS[0][1])
        self.assertEqual([cut.worth(2, 0, outcome) for outcome in range(3)], WORTHS[2][0])
        self.assertEqual([cut.worth(2, 1, outcome) for outcome in range(3)], WORTHS[2][2])

    def check_cut(self, rule, box, cut):
        self.assertEqual((cut.parties, cut.outcomes), (rule.parties, rule.outcomes))
        self.assertEqual(cut.sizes, tuple(len(side) for side in box.sides))
        self.assertEqual(cut.full.sides, tuple(tuple(range(len(side))) for side in box.sides))
        for combination in cut.full:
            before = tuple(box[party][standing] for party, standing in enumerate(combination))
            self.assertEqual(cut(combination), rule(before))
        for party, side in enumerate(box.sides):
            for standing, before in enumerate(side):
                for outcome in range(rule.outcomes):
                    self.assertEqual(cut.worth(party, standing, outcome), rule.worth(party, before, outcome))

    def test_all_boxes_of_small_rules(self):
        for rule in small_rules()[:18]:
            for box in boxes_inside(rule):
                self.check_cut(rule, box, rule.cut(box))

    def test_a_large_rule(self):
        rule = some_rule(1, (120, 5), 60, -10 ** 39, 10 ** 39)
        box = Box([list(range(119, 0, -3)), [4, 0, 2]])
        self.check_cut(rule, box, rule.cut(box))

    def test_the_first_rule_stays_as_it_was(self):
        rule = good_rule()
        rule.cut(Box([[1], [0], [2]]))
        self.assertEqual([rule(combination) for combination in rule.full], TABLE)
        self.assertEqual(rule.sizes, (2, 1, 3))
        self.assertEqual(rule.worth(0, 0, 0), 5)

    def test_the_full_box_gives_an_equal_rule(self):
        rule = majority()
        self.check_cut(rule, rule.full, rule.cut(rule.full))

    def test_a_cut_of_a_cut(self):
        rule = some_rule(3, (4, 3, 2), 5)
        cut = rule.cut(Box([[3, 1, 0], [2, 0], [0, 1]])).cut(Box([[2, 1], [1], [0, 1]]))
        self.check_cut(rule, Box([[3, 1], [2], [0, 1]]), cut)

    def test_refused_boxes(self):
        rule = first_come()
        for sides in (
            [[], [0]], [[0], []], [[], []], [[0]], [[0], [0], [0]], [[0, 1], [0, 1], []], [[0, 2], [0]], [[0], [2]],
            [[10 ** 9], [0]], [[0, 1], [0, 1, 2]], [[], [5]], [[5], []],
        ):
            with self.assertRaises(BadBox, msg=sides) as caught:
                rule.cut(Box(sides))
            self.assertIsInstance(caught.exception, AskError)
        self.assertEqual(rule.cut(Box([[0], [1]])).sizes, (1, 1))

    def test_a_standing_that_only_the_first_rule_has(self):
        rule = some_rule(5, (3, 2), 2)
        cut = rule.cut(Box([[2], [0, 1]]))
        with self.assertRaises(BadBox):
            cut.cut(Box([[2], [0, 1]]))
        self.check_cut(rule, Box([[2], [1]]), cut.cut(Box([[0], [1]])))


class InterfaceTests(unittest.TestCase):
    def test_rule_stands_in_its_file_with_its_methods(self):
        self.assertEqual(Rule.__module__, "plainask.rules")
        for name in ("__init__", "__call__", "worth", "cut"):
            self.assertIn(name, vars(Rule))

    def test_attributes_are_set_from_the_start(self):
        for name in ("parties", "outcomes", "sizes", "full"):
            self.assertIn(name, vars(first_come()))


if __name__ == "__main__":
    unittest.main()
