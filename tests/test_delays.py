"""Promises 14 and 15: delay books and delayed paths."""

import copy
import itertools
import random
import time
import unittest

from plainask import delays
from plainask.boxes import Box
from plainask.deciding import questions_due, shortest_tree
from plainask.delays import delay_book, delayed_path
from plainask.judging import first_wrong, fits, lures
from plainask.ties import groups
from plainask.trees import Tree
from tests.judge import groups_in
from tests.samples import (AUCTIONS, GREAT, auction, first_come, indifferent, majority, plain_rule, plain_rules,
                           small_rules, some_rule, table_of)

END = ("end", 0)


def replaced(sides, party, side):
    return (*sides[:party], tuple(side), *sides[party + 1:])


def random_plain_rows(source, rule, sides):
    """The rows of a plain tree that is seldom a shortest one: cells are groups, or several groups together."""
    box = Box(sides)
    outcomes = {rule(combination) for combination in box}
    choices = [(party, groups(rule, box, party)) for party in range(rule.parties)]
    choices = [(party, parts) for party, parts in choices if len(parts) > 1]
    if len(outcomes) == 1 and (not choices or source.random() < 0.7):
        return ("end", outcomes.pop())
    party, parts = source.choice(choices)
    source.shuffle(parts)
    cut = source.randint(1, len(parts) - 1)
    cells = [tuple(sorted(sum(some, ()))) for some in (parts[:cut], parts[cut:])]
    return ("ask", party, tuple((cell, random_plain_rows(source, rule, replaced(sides, party, cell)))
                                for cell in cells))


def expected_path(book, tree):
    """Point 15, word by word."""
    if not book:
        return ()
    sides = book[0][0]
    rows, path = tree.rows, ()
    while rows[0] == "ask":
        _, party, branches = rows
        whole = [at for at, (cell, _) in enumerate(branches) if set(sides[party]) <= set(cell)]
        if not whole:
            answers = [row[2] for row in book if row[0] == sides]
            if not answers:
                break
            whole = [at for at, (cell, _) in enumerate(branches) if set(answers[0][party]) <= set(cell)]
            if not whole:
                break
            sides = replaced(sides, party, answers[0][party])
        path = (*path, whole[0])
        rows = branches[whole[0]][1]
    return path


class DelayTest(unittest.TestCase):
    def check_book(self, rule, book, length, groups_of=None):
        """Check every clause of point 14."""
        groups_of = groups_of or (lambda sides, party: groups(rule, Box(sides), party))
        self.assertIs(type(book), list)
        if length == 0:
            self.assertEqual(book, [])
            return
        self.assertEqual(book[0][:2], (rule.full.sides, length))
        due = {}
        for row in book:
            self.assertEqual([type(row), len(row)], [tuple, 3])
            sides, number, answers = row
            self.assertEqual(Box(sides).sides, sides)
            self.assertNotIn(sides, due)
            due[sides] = number
            self.assertIs(type(number), int)
            self.assertGreaterEqual(number, 1)
            self.assertEqual([type(answers), len(answers)], [tuple, rule.parties])
            self.assertGreater(len({rule(combination) for combination in Box(sides)}), 1)
            self.assertTrue(Box(sides) <= rule.full)
        for sides, number, answers in book:
            for party, answer in enumerate(answers):
                self.assertIs(type(answer), tuple)
                self.assertIn(answer, groups_of(sides, party))
                if answer != sides[party] and number >= 2:
                    self.assertGreaterEqual(due[replaced(sides, party, answer)], number - 1)


class DelayBookTests(DelayTest):
    def test_by_hand(self):
        self.assertEqual(delay_book(indifferent((2, 3), [1] * 6, 2)), [])
        self.assertIsNone(delay_book(majority()))
        [row] = delay_book(rule=first_come())
        self.assertEqual(row[:2], (((0, 1), (0, 1)), 1))
        self.assertIn(row[2], [((0,), (0, 1)), ((1,), (0, 1))])

    def test_small_rules(self):
        seen = set()
        for rule in [*small_rules(), *plain_rules()]:
            length = questions_due(rule, rule.full)
            book = delay_book(rule)
            if length is None:
                self.assertIsNone(book)
            else:
                self.check_book(rule, book, length, lambda sides, party: groups_in(rule, sides, party))
                seen.add(length)
        self.assertLessEqual({0, 1, 2, 3, 4}, seen)

    def test_the_numbers_are_due_in_the_boxes(self):
        for rule in plain_rules():
            for sides, due, _ in delay_book(rule):
                self.assertLessEqual(due, questions_due(rule, Box(sides)))

    def test_cut_rules(self):
        rule, _ = plain_rule(6, (4, 4, 3), 30)
        for sides in itertools.product([[0, 2, 3], [1, 2]], [[0, 1, 3], [2, 3]], [[0, 2], [1]]):
            cut = rule.cut(Box(sides))
            self.check_book(cut, delay_book(cut), questions_due(cut, cut.full))

    def test_the_same_after_the_list_is_cleared(self):
        for rule in plain_rules()[::7]:
            book = delay_book(rule)
            expected = copy.deepcopy(book)
            book.clear()
            self.assertEqual(delay_book(rule), expected)

    def test_the_rule_stays_as_it_was(self):
        for rule in plain_rules()[::7]:
            before = (rule.worths, table_of(rule), rule.full.sides)
            delay_book(rule)
            self.assertEqual((rule.worths, table_of(rule), rule.full.sides), before)

    def test_great_rules(self):
        start = time.perf_counter()
        rules = [auction(sizes) for sizes, _ in AUCTIONS]
        lengths = [length for _, length in AUCTIONS]
        for sizes in GREAT:
            rules.append(indifferent(sizes, table_of(some_rule(5, sizes, 60)), 60))
            rules.append(plain_rule(5, sizes, 60, True)[0])
        lengths += [questions_due(rule, rule.full) for rule in rules[len(lengths):]]
        for rule, length in zip(rules, lengths):
            book = delay_book(rule)
            self.check_book(rule, book, length)
            path = delayed_path(book, shortest_tree(rule))
            self.assertEqual(len(path), length)
        self.assertLess(time.perf_counter() - start, 120)


class DelayedPathTests(DelayTest):
    def test_an_empty_book(self):
        rule = indifferent((2, 2), [1] * 4, 2)
        self.assertEqual(delayed_path([], shortest_tree(rule)), ())
        self.assertEqual(delayed_path([], Tree(("ask", 0, (((0,), ("end", 1)), ((1,), ("end", 1)))))), ())
        self.assertEqual(delayed_path((), Tree(("end", 1))), ())

    def test_by_hand(self):
        book = [(((0, 1, 2), (0, 1)), 2, ((0, 2), (1,))), (((0, 2), (0, 1)), 1, ((0,), (0, 1)))]
        first = ("ask", 0, (((1,), END), ((0, 2), ("ask", 0, (((0,), ("ask", 1, (((0,), END), ((1,), END)))),
                                                             ((2,), END))))))
        self.assertEqual(delayed_path(book, Tree(first)), (1, 0))
        self.assertEqual(delayed_path(book=tuple(book), tree=Tree(first)), (1, 0))
        # Here the answer of party 0 does not lie in one cell.
        self.assertEqual(delayed_path(book, Tree(("ask", 0, (((0,), END), ((1, 2), END))))), ())
        # Here a side lies in one cell, and the box has no row after that.
        inner = ("ask", 0, (((0, 2), END), ((1,), END)))
        tree = Tree(("ask", 1, (((0, 1), ("ask", 1, (((1,), inner), ((0,), END)))), ((2,), END))))
        self.assertEqual(delayed_path(book, tree), (0, 0))
        self.assertEqual(delayed_path(book, Tree(END)), ())
        self.assertEqual(delayed_path(book[:1], Tree(first)), (1,))

    def test_a_side_that_lies_in_one_cell_needs_no_row(self):
        book = [(((0, 1, 2),), 1, ((0, 1),))]
        tree = Tree(("ask", 0, (((2,), END), ((0, 1), ("ask", 0, (((5,), END), ((0, 1, 4), END)))))))
        self.assertEqual(delayed_path(book, tree), (1, 1))

    def test_plain_trees_are_at_least_as_long(self):
        source = random.Random(4)
        seen = 0
        for rule in [*plain_rules(), *(plain_rule(seed, (4, 4, 3), 30, seed % 2 == 1)[0] for seed in range(10))]:
            book = delay_book(rule)
            due = book[0][1] if book else 0
            trees = [shortest_tree(rule)] + [Tree(random_plain_rows(source, rule, rule.full.sides)) for _ in range(8)]
            for tree in trees:
                self.assertEqual([fits(rule, tree), first_wrong(rule, tree), lures(rule, tree)], [True, None, []])
                path = delayed_path(book, tree)
                self.assertIs(type(path), tuple)
                self.assertEqual(path, expected_path(book, tree))
                self.assertGreaterEqual(len(path), due)
                self.assertLessEqual(len(path), tree.length)
                seen += tree.length > due
        self.assertGreater(seen, 200)

    def test_trees_that_are_not_plain(self):
        source = random.Random(9)
        short = 0
        for seed in range(30):
            rule, _ = plain_rule(seed, (4, 3, 3), 20)
            book = delay_book(rule)
            rows = shortest_tree(indifferent(rule.sizes, table_of(rule), rule.outcomes)).rows
            other = plain_rule(seed + 100, (4, 3, 3), source.randint(2, 20))[1]
            for tree in (Tree(rows), Tree(other)):
                self.assertTrue(fits(rule, tree))
                path = delayed_path(book, tree)
                self.assertEqual(path, expected_path(book, tree))
                short += len(path) < book[0][1]
        self.assertGreater(short, 10)

    def test_books_and_trees_stay_as_they_were(self):
        for rule in plain_rules()[::7]:
            book = delay_book(rule)
            tree = shortest_tree(rule)
            rows, before = tree.rows, copy.deepcopy(book)
            expected = delayed_path(book, tree)
            self.assertEqual(delayed_path(book, tree), expected)
            self.assertEqual(book, before)
            self.assertIs(tree.rows, rows)


class InterfaceTests(unittest.TestCase):
    def test_defined_in_the_file(self):
        for name in ("delay_book", "delayed_path"):
            self.assertEqual(getattr(delays, name).__module__, "plainask.delays")


if __name__ == "__main__":
    unittest.main()
