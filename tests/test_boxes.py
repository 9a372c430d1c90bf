"""Promises 1 and 4: boxes."""

import itertools
import unittest

from plainask.boxes import Box
from plainask.errors import AskError, BadBox

# None of these is an integer from 0.
WRONG_STANDINGS = [-1, -10 ** 9, True, False, None, "0", "", (0,), (), [0], []]


def subsets(most):
    """All sets of standings below `most`, the empty one included, as lists."""
    every = range(most)
    return [list(some) for many in range(most + 1) for some in itertools.combinations(every, many)]


def small_boxes():
    """All boxes with two sides of standings 0 to 2."""
    return [Box([first, second]) for first in subsets(3) for second in subsets(3)]


class SideTests(unittest.TestCase):
    def test_sides_are_ascending_tuples_without_duplicates(self):
        box = Box([[2, 0, 1], [5, 5, 3, 5], [7]])
        self.assertEqual(box.sides, ((0, 1, 2), (3, 5), (7,)))
        self.assertIs(type(box.sides), tuple)
        for side in box.sides:
            self.assertIs(type(side), tuple)

    def test_sides_ascend_as_numbers(self):
        self.assertEqual(Box([[100, 20, 3]]).sides, ((3, 20, 100),))

    def test_lists_and_tuples_are_the_same(self):
        for sides in ([[2, 0], [1]], ((2, 0), (1,)), [(2, 0), [1]], ([2, 0], (1,))):
            self.assertEqual(Box(sides).sides, ((0, 2), (1,)))

    def test_index_gives_a_side(self):
        box = Box([[2, 0], [1], []])
        self.assertEqual([box[0], box[1], box[2]], [(0, 2), (1,), ()])

    def test_parameter_by_name(self):
        self.assertEqual(Box(sides=[[1, 0]]).sides, ((0, 1),))

    def test_large_standings(self):
        box = Box([[10 ** 9, 0], [10 ** 9]])
        self.assertEqual(box.sides, ((0, 10 ** 9), (10 ** 9,)))
        self.assertEqual(list(box), [(0, 10 ** 9), (10 ** 9, 10 ** 9)])
        self.assertIn((10 ** 9, 10 ** 9), box)

    def test_the_argument_is_not_modified(self):
        sides = [[2, 0, 2], [1]]
        Box(sides)
        self.assertEqual(sides, [[2, 0, 2], [1]])


class CopyTests(unittest.TestCase):
    def test_later_changes_to_the_argument_have_no_effect(self):
        inner = [1, 0]
        sides = [inner, [2]]
        box = Box(sides)
        inner.append(7)
        sides.append([3])
        sides[1] = [9]
        self.assertEqual(box.sides, ((0, 1), (2,)))
        self.assertEqual([box[0], box[1]], [(0, 1), (2,)])
        self.assertEqual(list(box), [(0, 2), (1, 2)])
        self.assertNotIn((7, 2), box)

    def test_later_changes_to_a_returned_list_have_no_effect(self):
        box, other = Box([[0, 1], [0, 1]]), Box([[0], [0]])
        pieces = box - other
        expected = [piece.sides for piece in pieces]
        pieces.clear()
        self.assertEqual([piece.sides for piece in box - other], expected)
        members = list(box)
        members.append((9, 9))
        self.assertEqual(list(box), [(0, 0), (0, 1), (1, 0), (1, 1)])

    def test_two_boxes_from_one_list(self):
        sides = [[0, 1]]
        first = Box(sides)
        sides[0].append(2)
        second = Box(sides)
        self.assertEqual([first.sides, second.sides], [((0, 1),), ((0, 1, 2),)])
        self.assertEqual([list(first), list(second)], [[(0,), (1,)], [(0,), (1,), (2,)]])

    def test_later_changes_to_the_list_for_with_side_have_no_effect(self):
        side = [1, 0]
        box = Box([[5], [6]]).with_side(1, side)
        side.append(2)
        self.assertEqual(box.sides, ((5,), (0, 1)))


class IterationTests(unittest.TestCase):
    def test_combinations_come_in_order(self):
        box = Box([[2, 0], [1, 0]])
        self.assertEqual(list(box), [(0, 0), (0, 1), (2, 0), (2, 1)])

    def test_a_second_time(self):
        box = Box([[1, 0], [3]])
        self.assertEqual(list(box), [(0, 3), (1, 3)])
        self.assertEqual(list(box), [(0, 3), (1, 3)])
        self.assertEqual([(one, two) for one in box for two in box],
                         list(itertools.product([(0, 3), (1, 3)], repeat=2)))

    def test_duplicates_do_not_count_twice(self):
        self.assertEqual(list(Box([[0, 0], [1, 1, 1]])), [(0, 1)])

    def test_an_empty_side_makes_a_box_empty(self):
        for sides in ([[]], [[], [0, 1]], [[0, 1], []], [(), ()], [[0], [], [2]]):
            self.assertEqual(list(Box(sides)), [], sides)

    def test_eight_sides(self):
        sides = [[1, 0], [4], [2, 3], [0], [9, 8, 7], [1, 2], [0], [6, 5]]
        expected = list(itertools.product(*[sorted(side) for side in sides]))
        self.assertEqual(list(Box(sides)), expected)

    def test_1200_combinations(self):
        for sizes in ((1200,), (1, 1200), (30, 40), (2, 2, 2, 2, 3, 5, 5, 1)):
            box = Box([list(range(size))[::-1] for size in sizes])
            self.assertEqual(list(box), list(itertools.product(*[range(size) for size in sizes])))
            self.assertEqual(len(list(box)), 1200)

    def test_an_empty_box_with_long_sides(self):
        long = list(range(120))
        box = Box([long] * 7 + [[]])
        self.assertEqual(list(box), [])
        self.assertEqual(box - box, [])
        self.assertTrue(box <= Box([[0]] * 8))
        self.assertEqual([piece.sides for piece in Box([[0]] * 8) - box], [((0,),) * 8])


class MemberTests(unittest.TestCase):
    def setUp(self):
        self.box = Box([[0, 1], [1, 4]])

    def test_one_standing_of_each_side(self):
        for combination in [(0, 1), (0, 4), (1, 1), (1, 4)]:
            self.assertIs(combination in self.box, True)

    def test_other_standings(self):
        for combination in [(2, 1), (0, 0), (4, 1), (-1, 1), (1, 2), (5, 5)]:
            self.assertIs(combination in self.box, False)

    def test_too_short_or_too_long(self):
        for combination in [(), (0,), (1,), (0, 1, 1), (0, 1, 4, 0)]:
            self.assertIs(combination in self.box, False)

    def test_true_and_false_are_no_standings(self):
        for combination in [(True, 1), (False, 1), (0, True), (True, True), (False, 4)]:
            self.assertIs(combination in self.box, False)

    def test_nothing_is_in_an_empty_box(self):
        box = Box([[0, 1], []])
        for combination in [(0,), (0, 0), (1, 0), ()]:
            self.assertIs(combination in box, False)

    def test_agrees_with_the_iteration(self):
        for box in small_boxes():
            for combination in itertools.product(range(4), repeat=2):
                self.assertEqual(combination in box, combination in list(box))


class OperatorTests(unittest.TestCase):
    def test_example_of_the_document(self):
        pieces = Box([[2, 0, 1], [0, 1]]) - Box([[1], [1, 5]])
        self.assertEqual([pieces[0].sides, pieces[1].sides], [((0, 2), (0, 1)), ((1,), (0,))])
        self.assertEqual(len(pieces), 2)

    def test_inside(self):
        self.assertIs(Box([[1], [0, 2]]) <= Box([[0, 1], [0, 2, 3]]), True)
        self.assertIs(Box([[1], [0, 2]]) <= Box([[0, 1], [0, 3]]), False)
        self.assertIs(Box([[0, 1]]) <= Box([[1]]), False)
        self.assertIs(Box([[1]]) <= Box([[2]]), False)

    def test_inside_with_equal_boxes(self):
        self.assertIs(Box([[1, 0], [2]]) <= Box([[0, 1], [2, 2]]), True)
        box = Box([[3], [4]])
        self.assertIs(box <= box, True)

    def test_inside_with_empty_boxes(self):
        self.assertIs(Box([[], [5]]) <= Box([[0], [0]]), True)
        self.assertIs(Box([[5], []]) <= Box([[], [0]]), True)
        self.assertIs(Box([[0], [0]]) <= Box([[0], []]), False)

    def test_common(self):
        both = Box([[0, 2, 4], [1, 3]]) & Box([[4, 2, 3], [3, 5]])
        self.assertIsInstance(both, Box)
        self.assertEqual(both.sides, ((2, 4), (3,)))
        self.assertEqual(list(both), [(2, 3), (4, 3)])

    def test_common_keeps_the_sides_of_an_empty_box(self):
        self.assertEqual((Box([[0, 1], [2]]) & Box([[1], [3]])).sides, ((1,), ()))
        self.assertEqual((Box([[0], []]) & Box([[0], [1]])).sides, ((0,), ()))

    def test_common_of_equal_boxes(self):
        self.assertEqual((Box([[1, 0], [2]]) & Box([[0, 1], [2]])).sides, ((0, 1), (2,)))

    def test_difference_of_equal_boxes(self):
        self.assertEqual(Box([[1, 0], [2]]) - Box([[0, 1], [2]]), [])

    def test_difference_with_nothing_in_common(self):
        pieces = Box([[0, 1], [0, 1]]) - Box([[2], [3]])
        self.assertEqual([piece.sides for piece in pieces], [((0, 1), (0, 1))])
        pieces = Box([[0, 1], [0, 1]]) - Box([[1, 2], [3]])
        self.assertEqual([piece.sides for piece in pieces], [((0,), (0, 1)), ((1,), (0, 1))])

    def test_difference_with_an_empty_box(self):
        self.assertEqual(Box([[], [1]]) - Box([[0], [0]]), [])
        self.assertEqual(Box([[1], []]) - Box([[0], [0]]), [])
        pieces = Box([[0, 1], [2]]) - Box([[0], []])
        self.assertEqual([piece.sides for piece in pieces], [((1,), (2,)), ((0,), (2,))])

    def test_difference_of_three_sides(self):
        pieces = Box([[0, 1], [0, 1], [0, 1]]) - Box([[0], [0, 5], [0]])
        self.assertIs(type(pieces), list)
        self.assertEqual([piece.sides for piece in pieces],
                         [((1,), (0, 1), (0, 1)), ((0,), (1,), (0, 1)), ((0,), (0,), (1,))])

    def test_neither_box_is_modified(self):
        box, other = Box([[0, 1, 2], [0, 1]]), Box([[1], [1, 5]])
        box & other, box - other, box <= other, (0, 0) in box
        self.assertEqual(box.sides, ((0, 1, 2), (0, 1)))
        self.assertEqual(other.sides, ((1,), (1, 5)))
        self.assertEqual(list(box), [(0, 0), (0, 1), (1, 0), (1, 1), (2, 0), (2, 1)])
        self.assertEqual(list(other), [(1, 1), (1, 5)])

    def test_all_pairs_of_small_boxes(self):
        boxes = small_boxes()
        for box, other in itertools.product(boxes, repeat=2):
            mine, theirs = set(box), set(other)
            self.assertEqual(box <= other, mine <= theirs)
            common = box & other
            self.assertEqual(set(common), mine & theirs)
            self.check_pieces(box, other, common)

    def check_pieces(self, box, other, common):
        """The pieces are, for each party in turn, as the interface tells them."""
        expected = []
        for party, side in enumerate(box.sides):
            rest = tuple(standing for standing in side if standing not in other[party])
            sides = common.sides[:party] + (rest,) + box.sides[party + 1:]
            if () not in sides:
                expected.append(sides)
        pieces = box - other
        self.assertEqual([piece.sides for piece in pieces], expected)
        covered = [combination for piece in pieces for combination in piece]
        self.assertEqual(len(covered), len(set(covered)))
        self.assertEqual(set(covered), set(box) - set(other))

    def test_eight_sides(self):
        sides = [[0, 1], [0], [0, 1], [3], [0, 1], [2], [0, 1], [7, 8]]
        others = [[0], [0], [0, 1], [3], [1], [2], [0, 5], [8]]
        box, other = Box(sides), Box(others)
        self.assertEqual(set(box & other), set(box) & set(other))
        covered = [combination for piece in box - other for combination in piece]
        self.assertEqual(sorted(covered), sorted(set(box) - set(other)))


class WithSideTests(unittest.TestCase):
    def test_a_new_box(self):
        box = Box([[0, 1], [2], [3, 4]])
        changed = box.with_side(1, [9, 5, 9])
        self.assertIsInstance(changed, Box)
        self.assertEqual(changed.sides, ((0, 1), (5, 9), (3, 4)))
        self.assertEqual(list(changed)[:3], [(0, 5, 3), (0, 5, 4), (0, 9, 3)])

    def test_the_first_one_stays_as_it_was(self):
        box = Box([[0, 1], [2]])
        box.with_side(0, [7])
        self.assertEqual(box.sides, ((0, 1), (2,)))
        self.assertEqual(list(box), [(0, 2), (1, 2)])

    def test_first_and_last_party(self):
        box = Box([[0], [1], [2]])
        self.assertEqual(box.with_side(0, (8,)).sides, ((8,), (1,), (2,)))
        self.assertEqual(box.with_side(2, (8,)).sides, ((0,), (1,), (8,)))
        self.assertEqual(Box([[0]]).with_side(0, [1, 2]).sides, ((1, 2),))

    def test_an_empty_side(self):
        box = Box([[0], [1]]).with_side(0, [])
        self.assertEqual(box.sides, ((), (1,)))
        self.assertEqual(list(box), [])

    def test_parameters_by_name(self):
        self.assertEqual(Box([[0], [1]]).with_side(party=1, side=[3]).sides, ((0,), (3,)))

    def test_the_list_is_not_modified(self):
        side = [5, 1, 5]
        Box([[0]]).with_side(0, side)
        self.assertEqual(side, [5, 1, 5])


class RefusalTests(unittest.TestCase):
    def test_no_side(self):
        for sides in ([], ()):
            with self.assertRaises(BadBox):
                Box(sides)

    def test_wrong_standings_anywhere(self):
        for wrong in WRONG_STANDINGS:
            for sides in (
                [[wrong]], [[wrong, 0]], [[0, wrong]], [[0, 1, wrong, 2]], [(1, wrong)],
                [[wrong], [0]], [[0], [wrong]], [[0], [1, wrong], [2]], ([0], (wrong,)),
            ):
                with self.assertRaises(BadBox, msg=sides):
                    Box(sides)

    def test_wrong_standings_beside_equal_ones(self):
        for side in ([1, True], [True, 1], [0, False], [False, 0], [1, 0, True, False]):
            with self.assertRaises(BadBox, msg=side):
                Box([side])

    def test_wrong_standings_beside_empty_sides(self):
        for wrong in WRONG_STANDINGS:
            for sides in ([[], [wrong]], [[wrong], []], [[], [0, wrong], []]):
                with self.assertRaises(BadBox, msg=sides):
                    Box(sides)

    def test_a_number_too_long_to_be_shown(self):
        with self.assertRaises(BadBox):
            Box([[-10 ** 5000]])

    def test_with_side_refuses_as_box_does(self):
        for box in (Box([[0], [1]]), Box([[], [1]]), Box([[1], []])):
            for wrong in WRONG_STANDINGS:
                for side in ([wrong], [0, wrong], (wrong, 0)):
                    for party in (0, 1):
                        with self.assertRaises(BadBox, msg=side):
                            box.with_side(party, side)

    def test_a_refusal_leaves_the_box_as_it_was(self):
        box = Box([[0], [1]])
        with self.assertRaises(BadBox):
            box.with_side(0, [-1])
        self.assertEqual(box.sides, ((0,), (1,)))

    def test_the_error_is_an_ask_error(self):
        with self.assertRaises(AskError):
            Box([])
        with self.assertRaises(ValueError):
            Box([[-1]])


class InterfaceTests(unittest.TestCase):
    def test_box_stands_in_its_file_with_its_methods(self):
        self.assertEqual(Box.__module__, "plainask.boxes")
        for name in ("__getitem__", "__iter__", "__contains__", "__le__", "__and__", "__sub__", "with_side"):
            self.assertIn(name, vars(Box))


if __name__ == "__main__":
    unittest.main()
