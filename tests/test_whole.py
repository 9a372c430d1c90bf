"""Promise 1 and the interface, over the whole program."""

import ast
import copy
import importlib
import inspect
import pathlib
import unittest

from plainask.boxes import Box
from plainask.combos import combinations
from plainask.deciding import questions_due, shortest_tree, stuck_box
from plainask.delays import delay_book, delayed_path
from plainask.errors import AskError, BadAnswer, BadBox, BadRow, BadRule, BadTree, BadTurn
from plainask.judging import box_at, first_wrong, fits, lures, parting
from plainask.notation import read_tree, write_tree
from plainask.rankings import dictator, full_rule, never, rankings, verdict
from plainask.rounds import Round, Turn
from plainask.rules import Rule
from plainask.sealed import first_lie, lies
from plainask.ties import floor, groups, links, promise, reach, tie
from plainask.trees import Tree
from tests.samples import auction, first_come, majority, plain_rules, table_of

PACKAGE = pathlib.Path(__file__).resolve().parent.parent / "plainask"

# Under each module: its functions, with their parameters; those behind a star are passed by name only.
FUNCTIONS = {
    "combos": ["combinations(sides)"],
    "ties": ["reach(rule, box, party, standing)", "floor(rule, box, party, standing)",
             "promise(rule, box, party, standing, cell)", "tie(rule, box, party, first, second)",
             "groups(rule, box, party)", "links(rule, box, party)"],
    "judging": ["box_at(rule, tree, path)", "fits(rule, tree)", "first_wrong(rule, tree)", "lures(rule, tree)",
                "parting(box, tree)"],
    "deciding": ["questions_due(rule, box)", "shortest_tree(rule, *, most=100)", "stuck_box(rule)"],
    "delays": ["delay_book(rule)", "delayed_path(book, tree)"],
    "sealed": ["lies(rule, *, least=1)", "first_lie(rule, *, least=1)"],
    "rankings": ["rankings(outcomes)", "full_rule(parties, outcomes, table)", "dictator(rule)", "never(rule)",
                 "verdict(rule)"],
    "notation": ["write_tree(tree)", "read_tree(text)"],
}
# Under each module: its classes, with their methods.
CLASSES = {
    "boxes": {"Box": ["__init__(self, sides)", "with_side(self, party, side)", "__iter__(self)", "__getitem__(self, at)",
                      "__contains__(self, x)", "__le__(self, other)", "__and__(self, other)", "__sub__(self, other)"]},
    "rules": {"Rule": ["__init__(self, worths, table)", "__call__(self, combination)",
                       "worth(self, party, standing, outcome)", "cut(self, box)"]},
    "trees": {"Tree": ["__init__(self, rows)", "__call__(self, combination)", "ends(self)", "cut(self, box)"]},
    "rounds": {"Round": ["__init__(self, tree, *, patience=3, default=0)", "say(self, party, branch)", "wait(self)",
                         "take(self, answers)", "honest(self, standing)"],
               "Turn": ["__init__(self, game)", "__enter__(self)"]},
}
ERRORS = {"AskError": ValueError, "BadRule": AskError, "BadBox": AskError, "BadTree": AskError, "BadAnswer": AskError,
          "BadTurn": AskError, "BadRow": AskError}
CONSTANTS = {"deciding": {"MOST_QUESTIONS": 100}, "rounds": {"PATIENCE": 3, "FIRST": 0}, "sealed": {"LEAST_GAIN": 1}}
GENERATORS = [combinations, Tree.ends, lies]


def module(name):
    return importlib.import_module("plainask." + name)


def told(name, function):
    return name + str(inspect.signature(function))


class InterfaceTests(unittest.TestCase):
    def test_functions(self):
        for name, functions in FUNCTIONS.items():
            for expected in functions:
                function = getattr(module(name), expected.partition("(")[0])
                self.assertEqual(told(function.__name__, function), expected)
                self.assertEqual(function.__module__, "plainask." + name)

    def test_classes(self):
        for name, classes in CLASSES.items():
            for word, methods in classes.items():
                found = getattr(module(name), word)
                self.assertEqual(found.__module__, "plainask." + name)
                self.assertTrue(inspect.isclass(found))
                for expected in methods:
                    method = vars(found)[expected.partition("(")[0]]
                    self.assertEqual(told(method.__name__, method), expected)

    def test_errors(self):
        for name, base in ERRORS.items():
            found = getattr(module("errors"), name)
            self.assertEqual([found.__module__, found.__bases__], ["plainask.errors", (base,)])

    def test_constants(self):
        for name, constants in CONSTANTS.items():
            for word, value in constants.items():
                self.assertEqual(getattr(module(name), word), value)

    def test_generators(self):
        for function in GENERATORS:
            self.assertTrue(inspect.isgeneratorfunction(function))

    def test_defined_where_it_is_listed(self):
        for name in [*FUNCTIONS, *CLASSES, "errors"]:
            tree = ast.parse((PACKAGE / (name + ".py")).read_text())
            here = [node.name for node in tree.body if isinstance(node, (ast.FunctionDef, ast.ClassDef))]
            listed = [expected.partition("(")[0] for expected in FUNCTIONS.get(name, [])]
            listed += [*CLASSES.get(name, {}), *(ERRORS if name == "errors" else [])]
            self.assertLessEqual(set(listed), set(here))

    def test_every_parameter_by_its_name(self):
        rule, box = first_come(), first_come().full
        tree = shortest_tree(rule=rule)
        game = Round(tree=tree, patience=1, default=1)
        self.assertEqual(len(list(combinations(sides=[[0], [1, 2]]))), 2)
        self.assertEqual(Box(sides=[[0]]).with_side(party=0, side=[1]).sides, ((1,),))
        self.assertEqual(Rule(worths=[[[0]]], table=[0])(combination=(0,)), 0)
        self.assertEqual(rule.worth(party=0, standing=0, outcome=0), 1)
        self.assertEqual(rule.cut(box=box).sizes, (2, 2))
        self.assertEqual(reach(rule=rule, box=box, party=0, standing=0), (0,))
        self.assertEqual(floor(rule=rule, box=box, party=0, standing=0), 1)
        self.assertEqual(promise(rule=rule, box=box, party=0, standing=0, cell=[0]), 0)
        self.assertIsNone(tie(rule=rule, box=box, party=0, first=0, second=1))
        self.assertEqual(groups(rule=rule, box=box, party=0), [(0,), (1,)])
        self.assertEqual(links(rule=rule, box=box, party=0), [])
        self.assertEqual(Tree(rows=("end", 1))(combination=(0, 0)), 1)
        self.assertEqual(tree.cut(box=box).rows, tree.rows)
        self.assertEqual(box_at(rule=rule, tree=tree, path=()).sides, box.sides)
        self.assertEqual([fits(rule=rule, tree=tree), first_wrong(rule=rule, tree=tree)], [True, None])
        self.assertEqual([lures(rule=rule, tree=tree), parting(box=box, tree=tree)], [[], ()])
        self.assertEqual([questions_due(rule=rule, box=box), shortest_tree(rule=rule, most=0)], [1, None])
        self.assertIsNone(stuck_box(rule=rule))
        self.assertEqual(len(delayed_path(book=delay_book(rule=rule), tree=tree)), 1)
        self.assertEqual(game.honest(standing=1), 1)
        with Turn(game=game):
            self.assertIsNone(game.take(answers=[]))
            self.assertEqual(game.say(party=0, branch=1), 1)
        self.assertEqual([list(lies(rule=rule, least=2)), first_lie(rule=rule, least=2)], [[], None])
        self.assertEqual(rankings(outcomes=1), [(0,)])
        self.assertEqual(full_rule(parties=1, outcomes=1, table=[0]).sizes, (1,))
        self.assertEqual([dictator(rule=rule), never(rule=rule), verdict(rule=rule)], [0, (), ("dictator", 0)])
        self.assertEqual(write_tree(tree=read_tree(text="end 1")), "end 1")

    def test_attributes_are_set_from_the_start(self):
        for thing, names in [
            (Box([[0]]), ["sides"]), (majority(), ["parties", "outcomes", "sizes", "full"]),
            (Tree(("end", 0)), ["rows", "length"]),
            (Round(Tree(("end", 0))), ["path", "history", "silences", "party", "cells", "outcome"]),
            (Round(Tree(("ask", 0, (((0,), ("end", 0)), ((1,), ("end", 1)))))),
             ["path", "history", "silences", "party", "cells", "outcome"]),
            (BadRule("table"), ["part"]), (BadTree(()), ["path"]), (BadAnswer(()), ["path"]), (BadTurn(0), ["index"]),
            (BadRow(1), ["row"]),
        ]:
            for name in names:
                self.assertIn(name, vars(thing))


class ArgumentTests(unittest.TestCase):
    def test_no_function_modifies_its_arguments(self):
        for rule in [first_come(), majority(), *plain_rules()[::10]]:
            tree = Tree(("end", 0))
            if stuck_box(rule) is None:
                tree = shortest_tree(rule)
            before = [copy.deepcopy(vars(thing)) for thing in (rule, rule.full, tree)]
            sides = rule.full.sides
            for function in (reach, floor):
                function(rule, rule.full, 0, 0)
            for function in (groups, links):
                function(rule, rule.full, 0)
            for function in (stuck_box, shortest_tree, delay_book, verdict, never, dictator, first_lie):
                function(rule)
            for function in (fits, first_wrong, lures):
                function(rule, tree)
            list(lies(rule))
            questions_due(rule, rule.full)
            parting(rule.full, tree)
            write_tree(tree)
            after = [vars(thing) for thing in (rule, rule.full, tree)]
            for old, new in zip(before, after):
                self.assertEqual({name: value for name, value in old.items() if name != "full"},
                                 {name: value for name, value in new.items() if name != "full"})
            self.assertIs(rule.full.sides, sides)

    def test_later_changes_to_what_was_passed(self):
        worths, table = [[[1, 0], [0, 1]], [[0, 1], [1, 0]]], [0, 0, 1, 1]
        rule = Rule(worths, table)
        rows = ["ask", 0, [[[0], ["end", 0]], [[1], ["end", 1]]]]
        tree = Tree(rows)
        sides = [[0, 1], [1]]
        box = Box(sides)
        answers = [(0, 1)]
        game = Round(tree)
        game.take(answers)
        for passed in (worths[0][0], worths[0], worths, table, rows[2][0][0], rows[2], rows, sides[0], sides, answers):
            passed.clear()
        self.assertEqual([table_of(rule), rule.worth(0, 0, 0), box.sides], [[0, 0, 1, 1], 1, ((0, 1), (1,))])
        self.assertEqual([write_tree(tree), game.history], ["ask 0: 0 / 1\nend 0\nend 1", ((0, 1, True),)])

    def test_later_changes_to_what_was_returned(self):
        rule = auction((3, 4))
        wrong = Tree(("ask", 0, tuple(((standing,), ("end", 0)) for standing in range(rule.sizes[0]))))
        self.assertEqual(len(links(rule, rule.full, 0)), 1)
        for call in (lambda: groups(rule, rule.full, 1), lambda: links(rule, rule.full, 0), lambda: delay_book(rule),
                     lambda: lures(rule, wrong), lambda: rankings(4), lambda: rule.full - Box([[0]] * rule.parties)):
            first = call()
            expected = repr([getattr(thing, "sides", thing) for thing in first])
            first.clear()
            self.assertEqual(repr([getattr(thing, "sides", thing) for thing in call()]), expected)

    def test_tuples_in_the_place_of_lists(self):
        rule = Rule((((1, 0), (0, 1)), ((0, 1), (1, 0))), (0, 0, 1, 1))
        tree = shortest_tree(rule)
        self.assertEqual(tree.rows, shortest_tree(first_come()).rows)
        self.assertEqual(delayed_path(tuple(delay_book(rule)), tree), (0,))
        self.assertEqual(Round(tree).take(((0, 1),)), 1)
        self.assertEqual(table_of(full_rule(1, 2, (1, 0))), [1, 0])
        self.assertEqual(promise(rule, rule.full, 0, 0, (0,)), promise(rule, rule.full, 0, 0, [0]))

    def test_true_and_false_are_no_integers(self):
        tree = shortest_tree(first_come())
        game = Round(tree)
        for call, error in [
            (lambda: Box([[True]]), BadBox), (lambda: Box([[0], [False, 0]]), BadBox),
            (lambda: first_come().full.with_side(0, [True]), BadBox),
            (lambda: Rule([[[True, 0]]], [0]), BadRule), (lambda: Rule([[[1, 0]]], [False]), BadRule),
            (lambda: full_rule(1, 2, [0, True]), BadRule), (lambda: Tree(("end", True)), BadTree),
            (lambda: Tree(("ask", False, (((0,), ("end", 0)), ((1,), ("end", 1))))), BadTree),
            (lambda: Tree(("ask", 0, (((False,), ("end", 0)), ((1,), ("end", 1))))), BadTree),
            (lambda: tree((True, 0)), BadAnswer), (lambda: box_at(first_come(), tree, (True,)), BadAnswer),
            (lambda: box_at(first_come(), tree, [False]), BadAnswer), (lambda: game.say(False, 0), BadAnswer),
            (lambda: game.say(0, True), BadAnswer), (lambda: game.honest(False), BadAnswer),
            (lambda: game.take([(0, False)]), BadTurn), (lambda: game.take([(False, 0)]), BadTurn),
        ]:
            with self.assertRaises(error):
                call()
        self.assertNotIn((True, 0), first_come().full)
        self.assertEqual(game.path, ())


if __name__ == "__main__":
    unittest.main()
