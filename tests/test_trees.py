"""Promises 1, 9, 10 and 12: trees, what they refuse, honest answers, ends and cutting."""

import copy
import itertools
import unittest

from plainask.boxes import Box
from plainask.errors import AskError, BadAnswer, BadBox, BadRow, BadRule, BadTree, BadTurn
from plainask.trees import Tree
from tests.samples import chain, first_come, grid, some_rule

# None of these is an integer from 0.
NO_NATURALS = [-1, -10 ** 9, True, False, None, "0", "", (0,), (), [0], 1.0]

END = ("end", 0)

# Party 1 is asked first, then party 0, then party 1 once more.
ROWS = ("ask", 1, (
    ((3, 0), ("ask", 0, (
        ((1,), ("end", 7)),
        ((2, 0), ("ask", 1, (
            ((3,), ("end", 1)),
            ((0,), ("end", 7)),
        ))),
    ))),
    ((2, 1), ("end", 4)),
    ((5,), ("ask", 0, (
        ((0, 1), ("end", 0)),
        ((2,), ("end", 2)),
    ))),
))
TIDY = ("ask", 1, (
    ((0, 3), ("ask", 0, (
        ((1,), ("end", 7)),
        ((0, 2), ("ask", 1, (
            ((3,), ("end", 1)),
            ((0,), ("end", 7)),
        ))),
    ))),
    ((1, 2), ("end", 4)),
    ((5,), ("ask", 0, (
        ((0, 1), ("end", 0)),
        ((2,), ("end", 2)),
    ))),
))
ENDS = [((0, 0), 7), ((0, 1, 0), 1), ((0, 1, 1), 7), ((1,), 4), ((2, 0), 0), ((2, 1), 2)]


def expected_outcome(combination):
    """What ROWS does, told in another way."""
    zero, one = combination
    if one in (1, 2):
        return 4
    if one == 5:
        return 2 if zero == 2 else 0
    if zero == 1:
        return 7
    return 1 if one == 3 else 7


def lists(value):
    """The tuples as lists, at any depth."""
    return [lists(item) for item in value] if isinstance(value, (list, tuple)) else value


def only_tuples(value):
    return not isinstance(value, list) and (not isinstance(value, tuple) or all(only_tuples(item) for item in value))


class TreeTests(unittest.TestCase):
    def check(self, tree):
        self.assertEqual(tree.rows, TIDY)
        self.assertTrue(only_tuples(tree.rows))
        self.assertEqual(tree.length, 3)
        for combination in itertools.product(range(3), (0, 1, 2, 3, 5)):
            self.assertEqual(tree(combination), expected_outcome(combination))
        self.assertEqual(list(tree.ends()), ENDS)

    def test_all_that_a_tree_has(self):
        tree = Tree(ROWS)
        self.check(tree)
        self.check(tree)

    def test_lists_are_the_same_as_tuples(self):
        self.check(Tree(lists(ROWS)))
        self.check(Tree(list(ROWS)))
        self.check(Tree((ROWS[0], ROWS[1], lists(ROWS[2]))))

    def test_cells_are_ascending_as_numbers(self):
        tree = Tree(["ask", 0, [[[100, 20, 3], ["end", 0]], [[4], ["end", 1]]]])
        self.assertEqual(tree.rows, ("ask", 0, (((3, 20, 100), ("end", 0)), ((4,), ("end", 1)))))

    def test_branches_stay_in_the_order_given(self):
        tree = Tree(("ask", 0, (((9,), ("end", 0)), ((5,), ("end", 1)), ((7, 1), ("end", 2)))))
        self.assertEqual([cell for cell, rows in tree.rows[2]], [(9,), (5,), (1, 7)])
        self.assertEqual(list(tree.ends()), [((0,), 0), ((1,), 1), ((2,), 2)])

    def test_parameters_by_name(self):
        tree = Tree(rows=ROWS)
        self.check(tree)
        self.assertEqual(tree(combination=(2, 5)), 2)
        self.assertEqual(tree.cut(box=Box([[0], [1]])).rows, ("end", 4))

    def test_a_single_end(self):
        for rows in (("end", 5), ["end", 5]):
            tree = Tree(rows)
            self.assertEqual((tree.rows, tree.length, list(tree.ends())), (("end", 5), 0, [((), 5)]))
            self.assertEqual([tree((0, 1)), tree(()), tree((True,))], [5, 5, 5])

    def test_large_numbers(self):
        large = 3 * 10 ** 9
        tree = Tree(("ask", 0, (((large, 0), ("end", large)), ((large - 1,), ("end", 0)))))
        self.assertEqual(tree.rows[2][0], ((0, large), ("end", large)))
        self.assertEqual([tree((large,)), tree((large - 1,)), tree((0,))], [large, 0, large])
        self.assertEqual(list(tree.ends()), [((0,), large), ((1,), 0)])

    def test_a_large_party(self):
        tree = Tree(("ask", 10 ** 9, (((0,), END), ((1,), END))))
        self.assertEqual(tree.rows[1], 10 ** 9)
        with self.assertRaises(BadAnswer):
            tree((0, 1))

    def test_the_same_standing_in_the_cells_of_two_questions(self):
        rows = ("ask", 0, (
            ((0, 1), ("ask", 0, (((0,), END), ((1,), END)))),
            ((2,), ("ask", 1, (((0,), END), ((2,), END)))),
        ))
        self.assertEqual(Tree(rows).rows, rows)

    def test_later_changes_to_the_lists_have_no_effect(self):
        rows = lists(ROWS)
        tree = Tree(rows)
        rows[2][0][0].append(9)
        rows[2][1][1][1] = 99
        rows[2][0][1][2].pop()
        rows[2].append([[11], ["end", 1]])
        rows[2][2][1][0] = "end"
        rows[1] = 0
        rows.append(3)
        self.check(tree)

    def test_two_trees_by_turns(self):
        rows = lists(ROWS)
        first = Tree(rows)
        rows[2][1][1][1] = 99
        second = Tree(rows)
        for _ in range(2):
            self.check(first)
            self.assertEqual([second((0, 1)), first((0, 1)), second((0, 5))], [99, 4, 0])
            pairs = zip(first.ends(), second.ends())
            self.assertEqual([one for one, two in pairs if one != two], [((1,), 4)])

    def test_two_runs_over_the_ends_at_the_same_time(self):
        tree = Tree(ROWS)
        self.assertEqual(list(zip(tree.ends(), tree.ends())), [(one, one) for one in ENDS])

    def test_the_argument_is_not_modified(self):
        rows = lists(ROWS)
        tree = Tree(rows)
        tree((0, 1)), list(tree.ends()), tree.cut(Box([[0], [1, 5]]))
        self.assertEqual(rows, lists(ROWS))

    def test_a_chain_of_a_hundred_questions(self):
        for questions in (100, 120):
            tree = Tree(lists(chain(questions)))
            self.assertEqual(tree.rows, chain(questions))
            self.assertEqual(tree.length, questions)
            self.assertEqual([tree((standing,)) for standing in range(questions + 1)], list(range(questions + 1)))
            expected = [((1,) * standing + (0,), standing) for standing in range(questions)]
            self.assertEqual(list(tree.ends()), expected + [((1,) * questions, questions)])
            with self.assertRaises(BadAnswer) as caught:
                tree((questions + 1,))
            self.assertEqual(caught.exception.path, ())

    def test_1200_ends(self):
        tree = Tree(lists(grid(40, 30)))
        self.assertEqual((tree.rows, tree.length), (grid(40, 30), 2))
        every = list(itertools.product(range(40), range(30)))
        self.assertEqual([tree(combination) for combination in every], list(range(1200)))
        self.assertEqual(list(tree.ends()), list(zip(every, range(1200))))

    def test_paths_ascend_as_tuples_of_numbers(self):
        paths = [path for path, outcome in Tree(grid(12, 11)).ends()]
        self.assertEqual(paths, sorted(paths))
        self.assertEqual(paths[:2] + paths[-1:], [(0, 0), (0, 1), (11, 10)])

    def test_length_is_that_of_the_longest_path(self):
        short, long = ("end", 0), chain(4)
        for branches in ([((0,), short), ((1,), long)], [((0,), long), ((1,), short)]):
            self.assertEqual(Tree(("ask", 1, branches)).length, 5)


class RefusalTests(unittest.TestCase):
    def check_refused(self, rows, path):
        with self.assertRaises(BadTree, msg=rows) as caught:
            Tree(rows)
        self.assertEqual(caught.exception.path, path, rows)
        self.assertIsInstance(caught.exception, AskError)
        for other in (BadBox, BadRule, BadAnswer, BadTurn, BadRow):
            self.assertNotIsInstance(caught.exception, other)

    def check_refused_everywhere(self, wrong):
        """Refused as the root, and at every other place of a tree."""
        self.check_refused(wrong, ())
        self.check_refused(("ask", 0, (((0,), wrong), ((1,), END))), (0,))
        self.check_refused(["ask", 0, [[[0], END], [[1], wrong]]], (1,))
        deep = ("ask", 1, (((0,), END), ((1,), END), ((2,), ("ask", 0, (((4,), END), ((5,), wrong))))))
        self.check_refused(deep, (2, 1))

    def test_rows_that_are_nothing_of_the_kind(self):
        for wrong in (None, True, False, 0, 7, "", "end", "ask", "end 0", (), [], (()), ("end",), ["ask"], (0,),
                      (0, 1), (None, 0), (("end", 0),), {}, {"end": 0}, b"end"):
            self.check_refused_everywhere(wrong)

    def test_a_wrong_word(self):
        branches = (((0,), END), ((1,), END))
        for word in ("End", "END", "ends", "", " end", "ask", None, 0, ("end",)):
            self.check_refused_everywhere((word, 0))
        for word in ("Ask", "asks", "", "end", None, 0):
            self.check_refused_everywhere((word, 0, branches))

    def test_a_part_too_many_or_too_few(self):
        branches = (((0,), END), ((1,), END))
        for wrong in (("end", 0, 0), ("end", 0, ()), ("end",), ("ask", 0), ("ask", branches), ("ask", 0, branches, 0),
                      ("ask", 0, branches, branches), ("ask", 0) + branches):
            self.check_refused_everywhere(wrong)

    def test_an_outcome_that_is_no_integer_from_0(self):
        for outcome in NO_NATURALS:
            self.check_refused_everywhere(("end", outcome))

    def test_a_party_that_is_no_integer_from_0(self):
        for party in NO_NATURALS:
            self.check_refused_everywhere(("ask", party, (((0,), END), ((1,), END))))

    def test_a_standing_that_is_no_integer_from_0(self):
        for standing in NO_NATURALS:
            for cells in ([(standing,), (5,)], [(5,), (standing,)], [(4, standing), (5,)],
                          [(4,), (5,), (6, standing, 7)], [(standing,), (1,)], [(0,), (2, standing)]):
                self.check_refused_everywhere(("ask", 0, [(cell, END) for cell in cells]))

    def test_too_few_branches(self):
        for branches in ((), [], (((0,), END),), [[[0, 1], END]]):
            self.check_refused_everywhere(("ask", 0, branches))

    def test_no_list_of_branches(self):
        for branches in (None, 0, True, "ab", {0: END, 1: END}):
            self.check_refused_everywhere(("ask", 0, branches))

    def test_a_branch_that_is_no_pair(self):
        good = ((0,), END)
        for branch in ((), ((1,),), ((1,), END, END), ((1,), END, 0), END, None, 3, "ab", "a", (1,), True):
            self.check_refused_everywhere(("ask", 0, (good, branch)))
            self.check_refused_everywhere(("ask", 0, [branch, good]))
            self.check_refused_everywhere(("ask", 0, [good, ((3,), END), branch, ((4,), END)]))

    def test_a_cell_that_is_no_list_of_standings(self):
        for cell in ((), [], None, 3, True, "3", {3: True}):
            self.check_refused_everywhere(("ask", 0, (((0,), END), (cell, END))))
            self.check_refused_everywhere(("ask", 0, ((cell, END), ((0,), END))))

    def test_a_standing_twice(self):
        for cells in ([(0, 0), (1,)], [(1,), (0, 2, 0)], [(0,), (0,)], [(0, 1), (2, 1)], [(3,), (4,), (5, 3)]):
            self.check_refused_everywhere(("ask", 0, [(cell, END) for cell in cells]))

    def test_two_invalid_places_the_least_path_is_named(self):
        wrong = ("end", -1)
        self.check_refused(("ask", 0, (((0,), wrong), ((1,), wrong))), (0,))
        deep = ("ask", 0, (((0,), END), ((1,), wrong)))
        self.check_refused(("ask", 0, (((0,), deep), ((1,), wrong))), (0, 1))
        self.check_refused(("ask", 0, (((0,), wrong), ((1,), deep))), (0,))
        self.check_refused(("ask", 0, (((0,), END), ((1,), deep), ((2,), deep))), (1, 1))
        two = ("ask", 0, tuple(((at,), wrong if at in (2, 10) else END) for at in range(12)))
        self.check_refused(two, (2,))

    def test_two_invalid_places_one_above_the_other(self):
        wrong = ("end", None)
        self.check_refused(("ask", -1, (((0,), wrong), ((1,), END))), ())
        self.check_refused(("ask", 0, (((0,), wrong), ((0,), END))), ())
        self.check_refused(("ask", 0, (((0,), wrong), ((), END))), ())
        self.check_refused(("ask", 0, (((0,), wrong), ((1,),))), ())
        self.check_refused(("ask", 0, (((0,), wrong),)), ())
        middle = ("ask", 0, (((0,), wrong), ((True,), wrong)))
        self.check_refused(("ask", 0, (((0,), END), ((1,), middle))), (1,))

    def test_at_the_end_of_a_long_chain(self):
        rows = lists(chain(100))
        place = rows
        for _ in range(99):
            place = place[2][1][1]
        place[2][1][1] = ["end", -5]
        self.check_refused(rows, (1,) * 100)

    def test_a_number_too_long_to_be_shown(self):
        self.check_refused(("end", -10 ** 5000), ())
        self.check_refused(("ask", -10 ** 5000, (((0,), END), ((1,), END))), ())

    def test_a_good_tree_before_and_after(self):
        before = Tree(ROWS)
        self.check_refused(("end", -1), ())
        after = Tree(ROWS)
        self.assertEqual((before.rows, after.rows), (TIDY, TIDY))


class AnswerTests(unittest.TestCase):
    def check_refused(self, tree, combination, path):
        with self.assertRaises(BadAnswer, msg=combination) as caught:
            tree(combination)
        self.assertEqual(caught.exception.path, path)
        self.assertIsInstance(caught.exception, AskError)
        self.assertNotIsInstance(caught.exception, BadTree)

    def test_a_standing_in_no_cell(self):
        tree = Tree(ROWS)
        self.check_refused(tree, (0, 4), ())
        self.check_refused(tree, (9, 4), ())
        self.check_refused(tree, (9, 0), (0,))
        self.check_refused(tree, (9, 5), (2,))
        self.check_refused(tree, (-1, 3), (0,))
        self.assertEqual(tree((0, 3)), 1)

    def test_a_cell_of_a_later_question_lacks_it(self):
        tree = Tree(("ask", 0, (((0, 1, 2), ("ask", 0, (((0,), END), ((2,), END)))), ((3,), END))))
        self.check_refused(tree, (1,), (0,))
        self.check_refused(tree, (4,), ())

    def test_the_path_of_a_deeper_question(self):
        last = ("ask", 2, (((0,), END), ((1,), END)))
        tree = Tree(("ask", 0, (((0,), END), ((1,), ("ask", 1, (((0,), last), ((1,), END)))))))
        self.check_refused(tree, (1, 0, 2), (1, 0))
        self.check_refused(tree, (1, 0), (1, 0))

    def test_true_and_false_are_no_standings(self):
        tree = Tree(("ask", 0, (((0,), ("ask", 1, (((0,), END), ((1,), END)))), ((1,), END))))
        for wrong in (True, False, None, "0", (0,), [0], 0.0):
            self.check_refused(tree, (wrong, 0), ())
            self.check_refused(tree, (0, wrong), (0,))

    def test_parties_that_are_not_asked_do_not_matter(self):
        tree = Tree(ROWS)
        for other in (0, 99, -1, None, True, "x"):
            self.assertEqual(tree((other, 1)), 4)
            self.assertEqual(tree((other, 2, other)), 4)
            self.assertEqual(tree((2, 5, other, other)), 2)

    def test_a_combination_without_a_standing_for_the_asked_party(self):
        tree = Tree(ROWS)
        self.check_refused(tree, (0,), ())
        self.check_refused(tree, (), ())
        self.assertEqual(Tree(("ask", 0, (((0,), END), ((1,), ("end", 3)))))((1,)), 3)


class CutTests(unittest.TestCase):
    def test_by_hand(self):
        tree = Tree(ROWS)
        cut = tree.cut(Box([[0, 2], [0, 2, 3, 5]]))
        self.assertIsInstance(cut, Tree)
        self.assertEqual(cut.rows, ("ask", 1, (
            ((0, 2), ("ask", 1, (((2,), ("end", 1)), ((0,), ("end", 7))))),
            ((1,), ("end", 4)),
            ((3,), ("ask", 0, (((0,), ("end", 0)), ((1,), ("end", 2))))),
        )))
        self.assertEqual(cut.length, 2)
        self.assertEqual(tree.rows, TIDY)

    def test_down_to_an_end(self):
        tree = Tree(ROWS)
        self.assertEqual(tree.cut(Box([[0, 1, 2], [1, 2]])).rows, ("end", 4))
        self.assertEqual(tree.cut(Box([[2], [0]])).rows, ("end", 7))
        self.assertEqual(tree.cut(Box([[2], [0]])).length, 0)
        self.assertEqual(Tree(END).cut(Box([[3], [4]])).rows, END)

    def test_the_root_is_replaced(self):
        self.assertEqual(Tree(ROWS).cut(Box([[1, 2], [3, 0]])).rows,
                         ("ask", 0, (((0,), ("end", 7)), ((1,), ("ask", 1, (((1,), ("end", 1)), ((0,), ("end", 7))))))))

    def test_the_whole_box_numbers_anew(self):
        tree = Tree(("ask", 0, (((5, 9), END), ((7,), ("end", 1)))))
        self.assertEqual(tree.cut(Box([[9, 5, 7]])).rows, ("ask", 0, (((0, 2), END), ((1,), ("end", 1)))))

    def test_a_party_that_is_never_asked(self):
        tree = Tree(("ask", 1, (((0,), END), ((1,), ("end", 1)))))
        self.assertEqual(tree.cut(Box([[8, 9], [0, 1], [3]])).rows, tree.rows)

    def test_honest_answers_stay_the_same_in_every_box(self):
        tree = Tree(ROWS)
        sides = [[0, 1, 2], [0, 1, 2, 3, 5]]
        some = [[list(part) for many in range(1, len(side) + 1) for part in itertools.combinations(side, many)]
                for side in sides]
        for pair in itertools.product(*some):
            box = Box(pair)
            cut = tree.cut(box)
            new = itertools.product(*[range(len(side)) for side in box.sides])
            self.assertEqual([cut(combination) for combination in new], [tree(combination) for combination in box])
            self.check_cells(cut.rows)
        self.assertEqual(tree.rows, TIDY)

    def check_cells(self, rows):
        """At least two branches at each question, each cell ascending."""
        if rows[0] == "ask":
            self.assertGreaterEqual(len(rows[2]), 2)
            for cell, behind in rows[2]:
                self.assertEqual(cell, tuple(sorted(cell)))
                self.check_cells(behind)

    def test_with_the_rule(self):
        tree = Tree(("ask", 0, (((0,), ("end", 0)), ((1,), ("end", 1)))))
        rule = first_come()
        for sides in ([[0, 1], [1]], [[1], [0, 1]], [[0], [0]]):
            box = Box(sides)
            cut, smaller = tree.cut(box), rule.cut(box)
            self.assertEqual([cut(combination) for combination in smaller.full],
                             [smaller(combination) for combination in smaller.full])

    def test_a_cut_of_a_cut(self):
        tree = Tree(grid(5, 4))
        cut = tree.cut(Box([[0, 2, 4], [1, 3]])).cut(Box([[1, 2], [0, 1]]))
        self.assertEqual(cut.rows, tree.cut(Box([[2, 4], [1, 3]])).rows)
        self.assertEqual(list(cut.ends()), [((0, 0), 9), ((0, 1), 11), ((1, 0), 17), ((1, 1), 19)])

    def test_a_chain(self):
        tree = Tree(chain(100))
        cut = tree.cut(Box([list(range(0, 101, 2))]))
        self.assertEqual(cut.length, 50)
        self.assertEqual([cut((standing,)) for standing in range(51)], list(range(0, 101, 2)))
        self.assertEqual(tree.cut(Box([[37]])).rows, ("end", 37))
        self.assertEqual(tree.cut(Box([list(range(101))])).rows, tree.rows)
        self.assertEqual(tree.rows, chain(100))

    def test_1200_ends(self):
        tree = Tree(grid(40, 30))
        cut = tree.cut(Box([list(range(0, 40, 3)), [29, 4]]))
        self.assertEqual([outcome for path, outcome in cut.ends()],
                         [one * 30 + two for one in range(0, 40, 3) for two in (4, 29)])
        self.assertEqual(tree.rows, grid(40, 30))

    def test_rule_and_tree_are_cut_alike(self):
        rule = some_rule(8, (5, 4), 20)
        table = {combination: rule(combination) for combination in rule.full}
        tree = Tree(("ask", 0, tuple(
            ((one,), ("ask", 1, tuple(((two,), ("end", table[one, two])) for two in range(4)))) for one in range(5)
        )))
        box = Box([[4, 1], [3, 0, 2]])
        cut, smaller = tree.cut(box), rule.cut(box)
        for combination in smaller.full:
            self.assertEqual(cut(combination), smaller(combination))


class InterfaceTests(unittest.TestCase):
    def test_tree_stands_in_its_file_with_its_methods(self):
        self.assertEqual(Tree.__module__, "plainask.trees")
        for name in ("__init__", "__call__", "ends", "cut"):
            self.assertIn(name, vars(Tree))

    def test_attributes_are_set_from_the_start(self):
        for name in ("rows", "length"):
            self.assertIn(name, vars(Tree(END)))

    def test_ends_is_a_generator(self):
        steps = Tree(grid(2, 2)).ends()
        self.assertEqual(next(steps), ((0, 0), 0))
        self.assertEqual(list(steps), [((0, 1), 1), ((1, 0), 2), ((1, 1), 3)])

    def test_copies_of_the_rows_are_equal(self):
        self.assertEqual(Tree(copy.deepcopy(TIDY)).rows, Tree(TIDY).rows)


if __name__ == "__main__":
    unittest.main()
