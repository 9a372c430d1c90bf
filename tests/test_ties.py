"""Promises 7 and 8: floors, promises, ties, groups and links."""

import itertools
import time
import unittest

from plainask import ties
from plainask.boxes import Box
from plainask.rules import Rule
from plainask.ties import floor, groups, links, promise, reach, tie
from tests.samples import boxes_inside, first_come, majority, small_rules, some_rule


def expected_reach(rule, box, party, standing):
    return tuple(sorted({rule(combination) for combination in box if combination[party] == standing}))


def expected_floor(rule, box, party, standing):
    return min(rule.worth(party, standing, rule(combination)) for combination in box if combination[party] == standing)


def expected_promise(rule, box, party, standing, cell):
    worths = [rule.worth(party, standing, rule(combination)) for combination in box if combination[party] not in cell]
    return max(worths) if worths else None


def is_witness(rule, box, party, pair):
    """The definition in point 8, word by word."""
    own, other = pair
    mine = own[party]
    return (own in box and other in box and mine != other[party]
            and rule.worth(party, mine, rule(own)) < rule.worth(party, mine, rule(other)))


def are_tied(rule, box, party, first, second):
    pairs = itertools.permutations(list(box), 2)
    return any({own[party], other[party]} == {first, second} and is_witness(rule, box, party, (own, other))
               for own, other in pairs)


def chained(side, pairs):
    """The parts of the side that chains of the pairs hold together, as ascending tuples in order."""
    parts = [{standing} for standing in side]
    for first, second in pairs:
        joined = [part for part in parts if first in part or second in part]
        parts = [part for part in parts if part not in joined] + [set().union(*joined)]
    return sorted(tuple(sorted(part)) for part in parts)


def expected_groups(rule, box, party):
    tied = [pair for pair in itertools.combinations(box[party], 2) if are_tied(rule, box, party, *pair)]
    return chained(box[party], tied)


def places():
    """A rule, a box and a party: all boxes of a few rules, and the full boxes of more."""
    for at, rule in enumerate(small_rules()):
        for box in boxes_inside(rule) if at % 4 == 0 else [rule.full]:
            for party in range(rule.parties):
                yield rule, box, party


# Party 0 in its standings 0 to 3 gets the outcomes 0 to 3, whatever party 1 says.
# 0 envies 1, and 2 envies 3; nobody envies anybody else.
PAIRS = Rule(
    [[[1, 2, 0, 0], [0, 2, 0, 0], [0, 0, 1, 2], [0, 0, 0, 2]], [[0, 0, 0, 0], [0, 0, 0, 0]]],
    [0, 0, 1, 1, 2, 2, 3, 3],
)

# 0 envies 1, 1 envies 2, and 2 envies 3: 0 and 3 hang together by a chain alone.
CHAIN = Rule([[[1, 2, 0, 0], [0, 1, 2, 0], [0, 0, 1, 2], [0, 0, 0, 1]]], [0, 1, 2, 3])


class FloorTests(unittest.TestCase):
    def test_small_cases_by_hand(self):
        rule = Rule([[[5, 1, 3], [0, 7, 2]], [[0, 0, 0], [0, 0, 0]]], [2, 1, 0, 0])
        box = rule.full
        self.assertEqual([reach(rule, box, 0, 0), reach(rule, box, 0, 1)], [(1, 2), (0,)])
        self.assertEqual([reach(rule, box, 1, 0), reach(rule, box, 1, 1)], [(0, 2), (0, 1)])
        self.assertEqual([floor(rule, box, 0, 0), floor(rule, box, 0, 1)], [1, 0])
        self.assertEqual([promise(rule, box, 0, 0, [0]), promise(rule, box, 0, 1, [1])], [5, 7])
        self.assertEqual([promise(rule, box, 0, 0, []), promise(rule, box, 0, 0, [0, 1])], [5, None])
        smaller = Box([[0, 1], [0]])
        self.assertEqual([reach(rule, smaller, 0, 0), floor(rule, smaller, 0, 0)], [(2,), 3])
        self.assertEqual(promise(rule, smaller, 0, 1, [1]), 2)

    def test_reach_is_an_ascending_tuple_without_duplicates(self):
        rule = Rule([[[0] * 12], [[0] * 12] * 5], [11, 2, 11, 10, 2])
        self.assertEqual(reach(rule, rule.full, 0, 0), (2, 10, 11))
        self.assertIs(type(reach(rule, rule.full, 0, 0)), tuple)

    def test_reach_and_floor_everywhere(self):
        for rule, box, party in places():
            for standing in box[party]:
                for _ in range(2):
                    self.assertEqual(reach(rule, box, party, standing), expected_reach(rule, box, party, standing))
                    self.assertEqual(floor(rule, box, party, standing), expected_floor(rule, box, party, standing))

    def test_promise_everywhere(self):
        for rule, box, party in places():
            side = list(box[party])
            cells = [[], side[:1], side[1:], side[::-1], [77], side[:1] + [77, 99], side + [77],
                     list(range(rule.sizes[party]))]
            for standing, cell in itertools.product(side, cells):
                expected = expected_promise(rule, box, party, standing, cell)
                before = list(cell)
                self.assertEqual(promise(rule, box, party, standing, cell), expected)
                self.assertEqual(cell, before)
                self.assertEqual(promise(rule, box, party, standing, tuple(cell)), expected)

    def test_no_promise_beside_the_whole_side(self):
        rule = majority()
        for cell in ([0, 1], [1, 0], (0, 1), [0, 1, 2], [5, 1, 0, 1]):
            self.assertIsNone(promise(rule, rule.full, 1, 0, cell))
        box = Box([[0, 1], [1], [0, 1]])
        self.assertIsNone(promise(rule, box, 1, 1, [1]))
        self.assertIsNone(promise(rule, box, 1, 1, [0, 1]))
        self.assertEqual(promise(rule, box, 1, 1, [0]), 1)

    def test_a_promise_of_0_or_below_is_not_none(self):
        rule = Rule([[[0, -5], [0, -5]]], [0, 1])
        self.assertEqual(promise(rule, rule.full, 0, 1, [1]), 0)
        self.assertEqual(promise(rule, rule.full, 0, 0, [0]), -5)
        self.assertEqual(floor(rule, rule.full, 0, 1), -5)

    def test_two_boxes_by_turns(self):
        rule = some_rule(11, (3, 4), 4)
        smaller = Box([[0, 2], [1, 3]])
        for _ in range(2):
            for box in (rule.full, smaller):
                for party in range(2):
                    for standing in box[party]:
                        self.assertEqual(reach(rule, box, party, standing), expected_reach(rule, box, party, standing))
                        self.assertEqual(floor(rule, box, party, standing), expected_floor(rule, box, party, standing))
                        self.assertEqual(promise(rule, box, party, standing, [standing]),
                                         expected_promise(rule, box, party, standing, [standing]))

    def test_worths_of_forty_digits(self):
        large = 10 ** 40 - 1
        rule = Rule([[[large - 1, large], [-large, 1 - large]]], [0, 1])
        self.assertEqual([floor(rule, rule.full, 0, 0), floor(rule, rule.full, 0, 1)], [large - 1, 1 - large])
        self.assertEqual([promise(rule, rule.full, 0, 0, [0]), promise(rule, rule.full, 0, 1, [1])], [large, -large])
        self.assertEqual(tie(rule, rule.full, 0, 0, 1), ((0,), (1,)))

    def test_parameters_by_name(self):
        rule = first_come()
        self.assertEqual(reach(standing=0, party=0, box=rule.full, rule=rule), (0,))
        self.assertEqual(floor(standing=1, party=0, box=rule.full, rule=rule), 1)
        self.assertEqual(promise(cell=[0], standing=0, party=0, box=rule.full, rule=rule), 0)


class TieTests(unittest.TestCase):
    def test_majority_is_tied(self):
        rule = majority()
        for party in range(3):
            own, other = tie(rule, rule.full, party, 0, 1)
            self.assertTrue(is_witness(rule, rule.full, party, (own, other)))

    def test_first_come_is_not_tied(self):
        rule = first_come()
        self.assertIsNone(tie(rule, rule.full, 0, 0, 1))
        self.assertIsNone(tie(rule, rule.full, 0, 1, 0))
        self.assertIsNotNone(tie(rule, rule.full, 1, 0, 1))

    def test_equal_worths_do_not_tie(self):
        rule = Rule([[[3, 3], [3, 3]]], [0, 1])
        self.assertIsNone(tie(rule, rule.full, 0, 0, 1))
        rule = Rule([[[3, 4], [3, 3]]], [0, 1])
        self.assertEqual(tie(rule, rule.full, 0, 0, 1), ((0,), (1,)))

    def test_only_one_of_the_two_envies_the_other(self):
        for worths, expected in [([[0, 1], [0, 0]], ((0,), (1,))), ([[0, 0], [1, 0]], ((1,), (0,)))]:
            rule = Rule([worths], [0, 1])
            self.assertEqual(tie(rule, rule.full, 0, 0, 1), expected)
            self.assertEqual(tie(rule, rule.full, 0, 1, 0), expected)

    def test_everywhere_in_both_orders(self):
        for rule, box, party in places():
            for first, second in itertools.permutations(box[party], 2):
                for _ in range(2):
                    pair = tie(rule, box, party, first, second)
                    if not are_tied(rule, box, party, first, second):
                        self.assertIsNone(pair)
                        continue
                    self.assertIs(type(pair), tuple)
                    own, other = pair
                    self.assertEqual({own[party], other[party]}, {first, second})
                    self.assertTrue(is_witness(rule, box, party, pair))

    def test_standings_tied_in_a_box_are_tied_in_every_larger_one(self):
        rule = some_rule(2, (3, 3), 3)
        for box, larger in itertools.product(boxes_inside(rule), repeat=2):
            if box <= larger:
                for party in range(2):
                    for first, second in itertools.combinations(box[party], 2):
                        if tie(rule, box, party, first, second):
                            self.assertIsNotNone(tie(rule, larger, party, first, second))

    def test_parameters_by_name(self):
        rule = majority()
        self.assertIsNotNone(tie(second=1, first=0, party=0, box=rule.full, rule=rule))
        self.assertEqual(groups(party=0, box=rule.full, rule=rule), [(0, 1)])
        self.assertEqual(len(links(party=0, box=rule.full, rule=rule)), 1)


class GroupTests(unittest.TestCase):
    def check(self, rule, box, party):
        found = groups(rule, box, party)
        self.assertIs(type(found), list)
        self.assertTrue(all(type(group) is tuple for group in found))
        self.assertEqual(found, expected_groups(rule, box, party))
        pairs = links(rule, box, party)
        self.assertIs(type(pairs), list)
        self.assertEqual(len(pairs), len(box[party]) - len(found))
        for pair in pairs:
            self.assertIs(type(pair), tuple)
            self.assertTrue(is_witness(rule, box, party, pair))
        self.assertEqual(chained(box[party], [(own[party], other[party]) for own, other in pairs]), found)

    def test_pairs_by_hand(self):
        self.assertEqual(groups(PAIRS, PAIRS.full, 0), [(0, 1), (2, 3)])
        self.assertEqual(groups(PAIRS, PAIRS.full, 1), [(0,), (1,)])
        self.assertEqual(groups(PAIRS, Box([[1, 2, 3], [1]]), 0), [(1,), (2, 3)])
        self.assertEqual(groups(PAIRS, Box([[3, 0], [0, 1]]), 0), [(0,), (3,)])
        self.assertEqual(links(PAIRS, PAIRS.full, 1), [])

    def test_chain_by_hand(self):
        self.assertEqual(groups(CHAIN, CHAIN.full, 0), [(0, 1, 2, 3)])
        self.assertIsNone(tie(CHAIN, CHAIN.full, 0, 0, 3))
        self.assertEqual(len(links(CHAIN, CHAIN.full, 0)), 3)
        self.assertEqual(groups(CHAIN, Box([[0, 1, 3]]), 0), [(0, 1), (3,)])
        self.assertEqual(groups(CHAIN, Box([[0, 2, 3]]), 0), [(0,), (2, 3)])
        self.assertEqual(groups(CHAIN, Box([[0, 2]]), 0), [(0,), (2,)])

    def test_groups_that_do_not_lie_side_by_side(self):
        rule = Rule([[[1, 0, 2], [0, 1, 0], [0, 0, 1]]], [0, 1, 2])
        self.assertEqual(groups(rule, rule.full, 0), [(0, 2), (1,)])

    def test_groups_are_ordered_by_their_least_standings(self):
        # The last standing ties 1 to 11 and 0 to 10 after the others have been looked at.
        worths = [[0] * 12 for _ in range(12)]
        for standing in range(12):
            worths[standing][standing] = 1
        worths[1][11] = worths[11][9] = worths[0][10] = 2
        rule = Rule([worths], list(range(12)))
        self.assertEqual(groups(rule, rule.full, 0), [(0, 10), (1, 9, 11), (2,), (3,), (4,), (5,), (6,), (7,), (8,)])

    def test_one_standing(self):
        rule = majority()
        box = Box([[0, 1], [1], [0]])
        self.assertEqual(groups(rule, box, 1), [(1,)])
        self.assertEqual(links(rule, box, 2), [])

    def test_everywhere(self):
        for rule, box, party in places():
            self.check(rule, box, party)

    def test_a_question_is_plain_if_no_group_has_standings_in_two_cells(self):
        for rule, box, party in places():
            side = box[party]
            for first in itertools.chain.from_iterable(itertools.combinations(side, n) for n in range(1, len(side))):
                cells = [first, tuple(standing for standing in side if standing not in first)]
                plain = all(floor(rule, box, party, standing) >= promise(rule, box, party, standing, cell)
                            for cell in cells for standing in cell)
                whole = all(any(set(group) <= set(cell) for cell in cells) for group in groups(rule, box, party))
                self.assertEqual(plain, whole)

    def test_two_boxes_by_turns(self):
        rule = some_rule(4, (4, 3), 3, 0, 2)
        for _ in range(2):
            for box in (rule.full, Box([[0, 3, 1], [2, 1]]), Box([[2, 3], [0]])):
                for party in range(2):
                    self.check(rule, box, party)

    def test_later_changes_to_returned_lists_have_no_effect(self):
        rule = some_rule(4, (4, 3), 3, 0, 2)
        found, pairs = groups(rule, rule.full, 0), links(rule, rule.full, 0)
        kept = (list(found), list(pairs))
        found.clear()
        pairs.clear()
        self.assertEqual((groups(rule, rule.full, 0), links(rule, rule.full, 0)), kept)
        self.check(rule, rule.full, 0)

    def test_nothing_that_is_passed_is_modified(self):
        rule = some_rule(6, (3, 3), 3)
        box = Box([[0, 2], [1, 2]])
        sides, outcomes = box.sides, [rule(combination) for combination in rule.full]
        for party in range(2):
            groups(rule, box, party), links(rule, box, party), tie(rule, box, party, *box[party])
            reach(rule, box, party, 2), floor(rule, box, party, 2), promise(rule, box, party, 2, [2])
        self.assertEqual((box.sides, [rule(combination) for combination in rule.full]), (sides, outcomes))

    def test_a_long_side(self):
        # Each standing gets the outcome that it wants, but 30 of them envy the next one.
        worths = [[0] * 60 for _ in range(120)]
        for standing in range(120):
            worths[standing][standing // 2] = 1
            if standing < 30:
                worths[standing][(standing + 2) // 2] = 2
        rule = Rule([worths, [[0] * 60] * 5], [standing // 2 for standing in range(120) for _ in range(5)])
        started = time.monotonic()
        found = groups(rule, rule.full, 0)
        self.assertEqual(found, [tuple(range(32))] + [(standing,) for standing in range(32, 120)])
        self.assertEqual(len(links(rule, rule.full, 0)), 31)
        self.assertLess(time.monotonic() - started, 20)

    def test_functions_stand_in_their_file(self):
        for function in (reach, floor, promise, tie, groups, links):
            self.assertEqual(function.__module__, "plainask.ties")
            self.assertIs(getattr(ties, function.__name__), function)


if __name__ == "__main__":
    unittest.main()
