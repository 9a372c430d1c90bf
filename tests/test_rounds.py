"""Promises 16 to 18: rounds, silences, refusals, turns, and what honesty brings in a plain tree."""

import inspect
import itertools
import random
import unittest

from plainask import rounds
from plainask.deciding import shortest_tree
from plainask.errors import AskError, BadAnswer, BadTurn
from plainask.judging import box_at
from plainask.rounds import FIRST, PATIENCE, Round, Turn
from plainask.ties import floor, promise
from plainask.trees import Tree
from tests.samples import auction, first_come, plain_rule, plain_rules

# Party 1 is asked first; then party 0, and party 1 once more on one path.
ROWS = ("ask", 1, (
    ((0, 3), ("ask", 0, (
        ((1,), ("end", 7)),
        ((0, 2), ("ask", 1, (
            ((3,), ("end", 1)),
            ((0,), ("end", 6)),
        ))),
    ))),
    ((1, 2), ("end", 4)),
    ((5,), ("ask", 0, (
        ((0, 1), ("end", 0)),
        ((2,), ("end", 2)),
    ))),
))
TREE = Tree(ROWS)
NO_NUMBERS = [-1, -2, True, False, None, "0", "", (0,), [], 1.0, 10 ** 30, -10 ** 30]


def state(game):
    """All that a round tells about itself."""
    return (game.path, game.history, game.silences, game.party, game.cells, game.outcome)


def expected_state(rows, history, silences=0):
    """The same, found from the tree and the history."""
    path = ()
    for party, branch, _ in history:
        assert rows[1] == party
        path = (*path, branch)
        rows = rows[2][branch][1]
    if rows[0] == "end":
        return (path, tuple(history), 0, None, (), rows[1])
    return (path, tuple(history), silences, rows[1], tuple(cell for cell, _ in rows[2]), None)


class RoundsTest(unittest.TestCase):
    def refuse(self, game, call):
        """Check that the call is refused, and that the round is as it was."""
        before = state(game)
        with self.assertRaises(BadAnswer) as caught:
            call()
        self.assertEqual(caught.exception.path, before[0])
        self.assertIs(type(caught.exception.path), tuple)
        self.assertIsInstance(caught.exception, AskError)
        self.assertEqual(state(game), before)

    def refuse_turn(self, game, answers, index):
        before = state(game)
        copied = list(answers)
        with self.assertRaises(BadTurn) as caught:
            game.take(answers)
        self.assertEqual(caught.exception.index, index)
        self.assertIsInstance(caught.exception, AskError)
        cause = caught.exception.__cause__
        self.assertIs(type(cause), BadAnswer)
        self.assertEqual(state(game), before)
        self.assertEqual(list(answers), copied)
        return cause


class SayTests(RoundsTest):
    def test_the_beginning(self):
        game = Round(TREE)
        self.assertEqual(state(game), ((), (), 0, 1, ((0, 3), (1, 2), (5,)), None))

    def test_from_the_root_to_an_end(self):
        game = Round(TREE)
        self.assertIsNone(game.say(1, 0))
        self.assertEqual(state(game), ((0,), ((1, 0, True),), 0, 0, ((1,), (0, 2)), None))
        self.assertIsNone(game.say(0, 1))
        self.assertEqual(state(game), ((0, 1), ((1, 0, True), (0, 1, True)), 0, 1, ((3,), (0,)), None))
        self.assertEqual(game.say(1, 1), 6)
        self.assertEqual(state(game), ((0, 1, 1), ((1, 0, True), (0, 1, True), (1, 1, True)), 0, None, (), 6))

    def test_the_outcome_0_is_not_none(self):
        game = Round(TREE)
        self.assertIsNone(game.say(party=1, branch=2))
        outcome = game.say(0, 0)
        self.assertEqual([outcome, game.outcome], [0, 0])
        self.assertIsNotNone(game.outcome)

    def test_a_tree_that_is_a_single_end(self):
        game = Round(Tree(("end", 3)))
        self.assertEqual(state(game), ((), (), 0, None, (), 3))
        self.assertEqual(game.take([]), 3)
        for call in (lambda: game.say(0, 0), game.wait, lambda: game.honest(0), lambda: game.say(None, 0)):
            self.refuse(game, call)
        self.assertEqual(self.refuse_turn(game, [None], 0).path, ())

    def test_all_paths(self):
        for rule in plain_rules()[::5]:
            tree = shortest_tree(rule)
            for path, outcome in tree.ends():
                game = Round(tree)
                history = []
                for branch in path:
                    self.assertEqual(state(game), expected_state(tree.rows, history))
                    history.append((game.party, branch, True))
                    told = game.say(game.party, branch)
                    self.assertEqual(told, game.outcome)
                self.assertEqual(state(game), expected_state(tree.rows, history))
                self.assertEqual([game.path, game.outcome], [path, outcome])

    def test_two_rounds_of_one_tree_by_turns(self):
        one, other = Round(TREE), Round(TREE, patience=1, default=2)
        one.say(1, 0)
        self.assertEqual(state(other), ((), (), 0, 1, ((0, 3), (1, 2), (5,)), None))
        other.wait()
        self.assertEqual([one.path, one.cells], [(0,), ((1,), (0, 2))])
        one.wait()
        self.assertEqual([other.silences, one.silences], [0, 1])
        other.say(0, 0)
        self.assertEqual([one.outcome, other.outcome, one.say(0, 0)], [None, 0, 7])
        self.assertEqual([one.history, other.history], [((1, 0, True), (0, 0, True)), ((1, 2, False), (0, 0, True))])
        self.assertEqual(TREE.rows, ROWS)


class SilenceTests(RoundsTest):
    def test_the_constants(self):
        self.assertEqual([PATIENCE, FIRST], [3, 0])
        parameters = inspect.signature(Round).parameters
        self.assertEqual([parameters["patience"].default, parameters["default"].default], [3, 0])
        with self.assertRaises(TypeError):
            Round(TREE, 3)

    def test_the_example_of_the_document(self):
        game = Round(Tree(("ask", 0, (((0,), ("end", 0)), ((1,), ("end", 1))))), patience=2, default=1)
        self.assertEqual([game.wait(), game.wait()], [False, True])
        self.assertEqual([game.path, game.history, game.outcome], [(1,), ((0, 1, False),), 1])

    def test_patience_and_default(self):
        for patience, default in itertools.product(range(1, 8), (0, 1, 2, 3, 4, 10 ** 9)):
            game = Round(tree=TREE, patience=patience, default=default)
            history = []
            while game.party is not None:
                for silences in range(patience - 1):
                    self.assertEqual(state(game), expected_state(ROWS, history, silences))
                    self.assertIs(game.wait(), False)
                self.assertEqual(state(game), expected_state(ROWS, history, patience - 1))
                history.append((game.party, min(default, len(game.cells) - 1), False))
                self.assertIs(game.wait(), True)
                self.assertEqual(state(game), expected_state(ROWS, history))
            self.refuse(game, game.wait)

    def test_left_out(self):
        game = Round(TREE)
        self.assertEqual([game.wait() for _ in range(6)], [False, False, True] * 2)
        self.assertEqual([game.path, game.outcome, game.silences], [(0, 0), 7, 0])
        game = Round(TREE, default=1)
        self.assertEqual([game.wait() for _ in range(3)], [False, False, True])
        self.assertEqual([game.path, game.outcome], [(1,), 4])
        game = Round(TREE, patience=1)
        self.assertEqual([game.wait(), game.path], [True, (0,)])

    def test_great_patience(self):
        game = Round(TREE, patience=10 ** 9)
        self.assertEqual({game.wait() for _ in range(1000)}, {False})
        self.assertEqual([game.silences, game.path], [1000, ()])
        self.assertIsNone(game.say(1, 0))
        self.assertEqual(game.silences, 0)

    def test_an_answer_ends_the_count(self):
        game = Round(TREE, default=1)
        game.wait()
        game.wait()
        self.assertEqual(game.silences, 2)
        game.say(1, 0)
        self.assertEqual(game.silences, 0)
        self.assertEqual([game.wait(), game.wait(), game.silences], [False, False, 2])
        game.say(0, 1)
        self.assertEqual([game.wait(), game.wait(), game.wait()], [False, False, True])
        self.assertEqual(game.history, ((1, 0, True), (0, 1, True), (1, 1, False)))
        self.assertEqual([game.outcome, game.silences], [6, 0])

    def test_history_is_made_of_tuples_and_truth(self):
        game = Round(TREE, patience=1)
        game.say(1, 0)
        game.wait()
        self.assertEqual(repr(game.history), "((1, 0, True), (0, 0, False))")


class RefusalTests(RoundsTest):
    def test_another_party(self):
        game = Round(TREE)
        for party in [0, 2, 7, *NO_NUMBERS]:
            for branch in (0, 1, 9):
                self.refuse(game, lambda: game.say(party, branch))
        game.say(1, 2)
        for party in [1, 2, *NO_NUMBERS]:
            self.refuse(game, lambda: game.say(party, 0))
        self.assertEqual(game.say(0, 1), 2)

    def test_no_such_branch(self):
        for silences in (0, 1, 2):
            game = Round(TREE)
            for _ in range(silences):
                game.wait()
            for branch in [3, 4, *NO_NUMBERS]:
                self.refuse(game, lambda: game.say(1, branch))
            self.assertEqual(game.silences, silences)
            game.say(1, 0)
            for branch in [2, 3, *NO_NUMBERS]:
                self.refuse(game, lambda: game.say(0, branch))
            self.assertEqual(game.path, (0,))

    def test_a_refused_answer_does_not_end_the_count(self):
        game = Round(TREE)
        game.wait()
        game.wait()
        self.refuse(game, lambda: game.say(0, 0))
        self.refuse(game, lambda: game.say(1, 3))
        self.refuse(game, lambda: game.honest(4))
        self.assertIs(game.wait(), True)
        self.assertEqual(game.path, (0,))

    def test_after_the_end(self):
        game = Round(TREE)
        game.say(1, 1)
        for party, branch in itertools.product([0, 1, None, True], [0, 1, None]):
            self.refuse(game, lambda: game.say(party, branch))
        self.refuse(game, game.wait)
        for standing in (0, 1, 2, None):
            self.refuse(game, lambda: game.honest(standing))
        self.assertEqual([game.outcome, game.take([])], [4, 4])


class HonestTests(RoundsTest):
    def test_standings(self):
        game = Round(TREE)
        self.assertEqual([game.honest(standing) for standing in (0, 3, 1, 2, 5)], [0, 0, 1, 1, 2])
        self.assertEqual(state(game), expected_state(ROWS, []))
        self.assertEqual(game.honest(standing=5), 2)
        game.say(1, 0)
        self.assertEqual([game.honest(standing) for standing in (0, 1, 2)], [1, 0, 1])

    def test_a_standing_that_is_in_no_cell(self):
        game = Round(TREE)
        game.wait()
        for standing in [4, 6, 10 ** 9, *NO_NUMBERS]:
            self.refuse(game, lambda: game.honest(standing))
        self.assertEqual(game.silences, 1)
        game.say(1, 0)
        for standing in [3, 4, *NO_NUMBERS]:
            self.refuse(game, lambda: game.honest(standing))
        game.say(0, 1)
        self.refuse(game, lambda: game.honest(1))
        self.assertEqual(game.honest(3), 0)

    def test_honest_rounds_bring_the_outcome_of_the_rule(self):
        for rule in plain_rules()[::3]:
            tree = shortest_tree(rule)
            for combination in rule.full:
                game = Round(tree)
                while game.party is not None:
                    game.say(game.party, game.honest(combination[game.party]))
                self.assertEqual(game.outcome, rule(combination))


class TakeTests(RoundsTest):
    def test_no_one_and_several_answers(self):
        game = Round(TREE)
        self.assertIsNone(game.take([]))
        self.assertEqual(state(game), expected_state(ROWS, []))
        self.assertIsNone(game.take([(1, 0)]))
        self.assertEqual(state(game), expected_state(ROWS, [(1, 0, True)]))
        self.assertEqual(game.take([(0, 1), (1, 0)]), 1)
        self.assertEqual(state(game), expected_state(ROWS, [(1, 0, True), (0, 1, True), (1, 0, True)]))

    def test_silences(self):
        game = Round(TREE, patience=2)
        self.assertIsNone(game.take([None]))
        self.assertEqual([game.silences, game.path], [1, ()])
        self.assertIsNone(game.take([None, None]))
        self.assertEqual([game.silences, game.path], [1, (0,)])
        self.assertIsNone(game.take([(0, 1), None]))
        self.assertEqual([game.silences, game.path], [1, (0, 1)])
        self.assertEqual(game.take([None]), 1)
        self.assertEqual(game.history, ((1, 0, False), (0, 1, True), (1, 0, False)))

    def test_a_tuple_and_arguments_by_name(self):
        game = Round(TREE)
        self.assertEqual(game.take(answers=((1, 2), (0, 0))), 0)
        self.assertEqual(Round(TREE, patience=1).take((None, (0, 0))), 7)

    def test_the_list_stays_as_it_was(self):
        answers = [(1, 0), None, (0, 1), None]
        Round(TREE).take(answers)
        self.assertEqual(answers, [(1, 0), None, (0, 1), None])

    def test_a_refused_answer_at_any_index(self):
        good = [None, (1, 0), None, None, (0, 1), None, (1, 1)]
        for index in range(len(good) + 1):
            for wrong in [(2, 0), (None, 0), (1, 3), (0, 2), (1, -1), (0, True), (True, 0), (False, 1)]:
                for start in range(index + 1):
                    game = Round(TREE)
                    game.take(good[:start])
                    answers = [*good[start:index], wrong, *good[index:]]
                    cause = self.refuse_turn(game, answers, index - start)
                    self.assertEqual(cause.path, self.path_after(good[:index]))
                    self.refuse_turn(game, tuple(answers), index - start)
                    self.assertEqual(game.take(good[start:]), 6)

    def path_after(self, answers):
        game = Round(TREE)
        game.take(answers)
        return game.path

    def test_answers_after_the_end(self):
        game = Round(TREE, patience=2)
        game.wait()
        for last in (None, (1, 0), (0, 0), (None, 0)):
            self.assertEqual(self.refuse_turn(game, [(1, 1), last], 1).path, (1,))
            self.assertEqual(self.refuse_turn(game, [None, None, None, last], 3).path, (0, 0))
        game.say(1, 1)
        for last in (None, (1, 0)):
            self.assertEqual(self.refuse_turn(game, [last], 0).path, (1,))
        self.assertEqual(game.take([]), 4)

    def test_silences_are_taken_back(self):
        game = Round(TREE)
        game.wait()
        game.wait()
        self.refuse_turn(game, [None, None, (1, 0)], 2)
        self.assertEqual([game.silences, game.path], [2, ()])
        self.assertIs(game.wait(), True)

    def test_another_error_leaves_the_round_as_it_was(self):
        game = Round(TREE)
        game.wait()
        before = state(game)
        with self.assertRaises((TypeError, ValueError)):
            game.take([None, (1, 0), 5])
        self.assertEqual(state(game), before)


class TurnTests(RoundsTest):
    def test_without_an_error(self):
        game = Round(TREE)
        with Turn(game):
            game.say(1, 0)
            game.wait()
        self.assertEqual(state(game), expected_state(ROWS, [(1, 0, True)], 1))
        with Turn(game=game):
            pass
        self.assertEqual(state(game), expected_state(ROWS, [(1, 0, True)], 1))

    def test_with_an_error(self):
        for kind in (BadAnswer, KeyError, ZeroDivisionError, KeyboardInterrupt, StopIteration):
            game = Round(TREE)
            game.take([(1, 0), None])
            before = state(game)
            error = kind(())
            with self.assertRaises(kind) as caught:
                with Turn(game):
                    game.take([None, (0, 1), None, None])
                    raise error
            self.assertIs(caught.exception, error)
            self.assertEqual(state(game), before)
            self.assertEqual(game.take([(0, 1), (1, 0)]), 1)

    def test_an_error_of_the_program(self):
        game = Round(TREE)
        with self.assertRaises(BadAnswer) as caught:
            with Turn(game):
                game.say(1, 2)
                game.say(1, 0)
        self.assertEqual(caught.exception.path, (2,))
        self.assertEqual(state(game), expected_state(ROWS, []))
        with self.assertRaises(BadTurn):
            with Turn(game):
                game.wait()
                game.take([(1, 2), (1, 0)])
        self.assertEqual(state(game), expected_state(ROWS, []))

    def test_after_the_end(self):
        game = Round(TREE)
        with self.assertRaises(ZeroDivisionError):
            with Turn(game):
                game.say(1, 1)
                game.outcome // 0
        self.assertEqual(state(game), expected_state(ROWS, []))
        game.say(1, 1)
        with self.assertRaises(BadAnswer):
            with Turn(game):
                game.wait()
        self.assertEqual(state(game), expected_state(ROWS, [(1, 1, True)]))

    def test_turns_inside_turns(self):
        game = Round(TREE)
        with self.assertRaises(ZeroDivisionError):
            with Turn(game):
                game.say(1, 0)
                with self.assertRaises(KeyError):
                    with Turn(game):
                        game.say(0, 1)
                        raise KeyError
                self.assertEqual(state(game), expected_state(ROWS, [(1, 0, True)]))
                with Turn(game):
                    game.say(0, 0)
                self.assertEqual(game.outcome, 7)
                raise ZeroDivisionError
        self.assertEqual(state(game), expected_state(ROWS, []))

    def test_a_block_begins_when_it_is_entered(self):
        game = Round(TREE)
        turn = Turn(game)
        game.say(1, 0)
        with self.assertRaises(KeyError):
            with turn:
                game.say(0, 1)
                raise KeyError
        self.assertEqual(game.path, (0,))
        with turn:
            game.say(0, 1)
        with self.assertRaises(KeyError):
            with turn:
                game.say(1, 1)
                raise KeyError
        self.assertEqual(game.path, (0, 1))

    def test_leaving_a_block_early_is_no_error(self):
        def early(game):
            with Turn(game):
                game.say(1, 0)
                return game.path

        game = Round(TREE)
        self.assertEqual([early(game), game.path], [(0,), (0,)])


class HonestyTests(unittest.TestCase):
    """Promise 18, in rounds in which the others say whatever they like."""

    def test_an_honest_party_gets_its_floor(self):
        source = random.Random(18)
        rules = [*plain_rules(), auction((4, 5)), auction((3, 3, 2)), plain_rule(2, (4, 4, 3), 30)[0]]
        asked = 0
        for rule in rules:
            tree = shortest_tree(rule)
            for party in range(rule.parties):
                for standing in range(rule.sizes[party]):
                    for _ in range(4):
                        asked += self.check_round(source, rule, tree, party, standing)
        self.assertGreater(asked, 500)

    def check_round(self, source, rule, tree, party, standing):
        game = Round(tree, patience=2, default=source.randint(0, 3))
        floors = []
        while game.party is not None:
            if game.party != party:
                game.take([None] * source.randint(0, 1) + [(game.party, source.randrange(len(game.cells)))])
                continue
            box = box_at(rule, tree, game.path)
            branch = game.honest(standing)
            least = floor(rule, box, party, standing)
            self.assertLessEqual(promise(rule, box, party, standing, game.cells[branch]), least)
            floors.append(least)
            game.say(party, branch)
        for least in floors:
            self.assertGreaterEqual(rule.worth(party, standing, game.outcome), least)
        return len(floors)

    def test_no_departure_gets_more(self):
        for rule in [first_come(), auction((3, 3)), auction((2, 2, 2)), *plain_rules()[::6]]:
            tree = shortest_tree(rule)
            for path, outcome in tree.ends():
                for at in range(len(path)):
                    game = Round(tree)
                    game.take(list(zip([entry[0] for entry in self.history(tree, path[:at])], path[:at])))
                    box = box_at(rule, tree, path[:at])
                    for standing in box[game.party]:
                        if standing not in game.cells[path[at]]:
                            self.assertLessEqual(rule.worth(game.party, standing, outcome),
                                                 floor(rule, box, game.party, standing))

    def history(self, tree, path):
        game = Round(tree)
        for branch in path:
            game.say(game.party, branch)
        return game.history


class InterfaceTests(unittest.TestCase):
    def test_defined_in_the_file_and_in_the_class(self):
        self.assertEqual([Round.__module__, Turn.__module__], [rounds.__name__] * 2)
        for name in ("say", "wait", "take", "honest"):
            self.assertIn(name, vars(Round))

    def test_attributes_are_set_from_the_start(self):
        for tree in (TREE, Tree(("end", 0))):
            for name in ("path", "history", "silences", "party", "cells", "outcome"):
                self.assertIn(name, vars(Round(tree)))


if __name__ == "__main__":
    unittest.main()
