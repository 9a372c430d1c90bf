"""Promise 2: combinations."""

import inspect
import itertools
import unittest

from plainask.combos import combinations


class CombinationTests(unittest.TestCase):
    def test_last_side_changes_fastest(self):
        self.assertEqual(
            list(combinations([[0, 1], [0, 1, 2]])),
            [(0, 0), (0, 1), (0, 2), (1, 0), (1, 1), (1, 2)],
        )

    def test_three_sides(self):
        self.assertEqual(
            list(combinations([[0, 1], [5], [7, 9]])),
            [(0, 5, 7), (0, 5, 9), (1, 5, 7), (1, 5, 9)],
        )

    def test_one_side(self):
        self.assertEqual(list(combinations([[4, 2]])), [(4,), (2,)])

    def test_sides_that_do_not_ascend_keep_their_order(self):
        self.assertEqual(list(combinations([[2, 0], [1, 3, 0]])),
                         [(2, 1), (2, 3), (2, 0), (0, 1), (0, 3), (0, 0)])

    def test_duplicates_are_taken_as_often_as_they_occur(self):
        self.assertEqual(list(combinations([[1, 1], [0, 2, 0]])),
                         [(1, 0), (1, 2), (1, 0), (1, 0), (1, 2), (1, 0)])

    def test_lists_and_tuples_are_the_same(self):
        expected = [(3, 0), (3, 1), (2, 0), (2, 1)]
        for sides in ([[3, 2], [0, 1]], ((3, 2), (0, 1)), [(3, 2), [0, 1]], ([3, 2], (0, 1))):
            self.assertEqual(list(combinations(sides)), expected)

    def test_each_combination_is_a_tuple(self):
        for combination in combinations([[0, 1], [0]]):
            self.assertIs(type(combination), tuple)

    def test_no_side_gives_the_empty_combination_once(self):
        self.assertEqual(list(combinations([])), [()])
        self.assertEqual(list(combinations(())), [()])

    def test_an_empty_side_gives_nothing(self):
        for sides in ([[]], [[], [0, 1]], [[0, 1], []], [[0], [], [1]], [(), ()], ((), [0])):
            self.assertEqual(list(combinations(sides)), [], sides)

    def test_an_empty_side_behind_long_ones_takes_no_time(self):
        long = list(range(1000))
        self.assertEqual(list(combinations([long] * 7 + [[]])), [])
        self.assertEqual(list(combinations([[]] + [long] * 7)), [])

    def test_first_combinations_come_without_the_rest(self):
        steps = combinations([list(range(1000))] * 8)
        self.assertEqual([next(steps), next(steps)], [(0,) * 8, (0,) * 7 + (1,)])

    def test_the_same_when_called_again(self):
        sides = [[2, 1], [0, 0]]
        self.assertEqual(list(combinations(sides)), list(combinations(sides)))

    def test_two_at_the_same_time_do_not_affect_each_other(self):
        sides = [[0, 1], [2, 3]]
        pairs = list(zip(combinations(sides), combinations(sides)))
        self.assertEqual(pairs, [(one, one) for one in [(0, 2), (0, 3), (1, 2), (1, 3)]])

    def test_the_argument_is_not_modified(self):
        sides = [[2, 1, 1], [5, 0]]
        list(combinations(sides))
        self.assertEqual(sides, [[2, 1, 1], [5, 0]])

    def test_changes_during_the_iteration_have_no_effect(self):
        sides = [[0, 1], [2, 3]]
        steps = combinations(sides)
        first = next(steps)
        sides[0].append(9)
        sides[1].clear()
        sides.append([4])
        self.assertEqual([first, *steps], [(0, 2), (0, 3), (1, 2), (1, 3)])

    def test_agrees_with_the_product(self):
        for lengths in itertools.product(range(4), repeat=3):
            sides = [[(7 * at + 3 * k) % 5 for k in range(many)] for at, many in enumerate(lengths)]
            self.assertEqual(list(combinations(sides)), list(itertools.product(*sides)))

    def test_eight_sides(self):
        sides = [[0, 1], [3], [2, 1], [0], [1, 0, 2], [10 ** 9, 5], [6], [1, 8]]
        self.assertEqual(list(combinations(sides)), list(itertools.product(*sides)))

    def test_it_is_a_generator_with_the_parameter_sides(self):
        self.assertTrue(inspect.isgeneratorfunction(combinations))
        self.assertEqual(list(combinations(sides=[[1], [2]])), [(1, 2)])


if __name__ == "__main__":
    unittest.main()
