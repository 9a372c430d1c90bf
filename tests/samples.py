"""Rules and boxes that several tests use."""

import itertools
import random

from plainask.boxes import Box
from plainask.rules import Rule


def first_come():
    """The first example of the document: party 0 gets what it wants."""
    return Rule([[[1, 0], [0, 1]], [[0, 1], [1, 0]]], [0, 0, 1, 1])


def majority():
    """The second example of the document: the outcome that most of three parties want."""
    return Rule([[[1, 0], [0, 1]]] * 3, [0, 0, 0, 1, 0, 1, 1, 1])


def some_rule(seed, sizes, outcomes, least=0, most=4):
    """A rule with these numbers of standings, the same one for the same seed."""
    source = random.Random(seed)
    worths = [[[source.randint(least, most) for _ in range(outcomes)] for _ in range(size)] for size in sizes]
    many = len(list(itertools.product(*[range(size) for size in sizes])))
    return Rule(worths, [source.randrange(outcomes) for _ in range(many)])


def subsets(side):
    """All sets of the side's standings but the empty one, as tuples."""
    return [some for many in range(1, len(side) + 1) for some in itertools.combinations(side, many)]


def boxes_inside(rule):
    """All boxes inside the rule's full box that are not empty."""
    return [Box(sides) for sides in itertools.product(*[subsets(side) for side in rule.full.sides])]


def small_rules():
    """Rules of one to four parties whose boxes can all be looked at."""
    shapes = [(1,), (4,), (2, 2), (3, 2), (1, 3), (3, 3), (2, 2, 2), (3, 1, 2), (2, 2, 1, 2)]
    return [some_rule(seed, shape, 2 + seed % 3, -2, 3) for seed in range(6) for shape in shapes]
