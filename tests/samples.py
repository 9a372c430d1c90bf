"""Rules and boxes that several tests use."""

import itertools
import random

from plainask.boxes import Box
from plainask.rules import Rule

# Numbers of standings at the limits of what a rule may have.
GREAT = [(24, 25), (5, 120), (120, 5), (120,), (8, 8, 9), (2, 17, 17), (4, 5, 5, 6), (2, 2, 12, 12),
         (3, 3, 3, 3, 3, 2), (1, 2, 3, 2, 5, 1, 5, 2), (2, 2, 2, 2, 2, 2, 3, 3), (1,) * 8, (5, 1, 120)]
# The numbers of standings of auctions, each with the length of a shortest plain tree.
AUCTIONS = [((24, 25), 46), ((8, 8, 9), 15), ((5, 5, 5, 4), 9), ((3, 3, 3, 3, 3, 2), 7), ((12, 12, 4), 21),
            ((2, 2, 2, 2, 2, 2, 3, 3), 8), ((2,) * 8, 8)]


def first_come():
    """The first example of the document: party 0 gets what it wants."""
    return Rule([[[1, 0], [0, 1]], [[0, 1], [1, 0]]], [0, 0, 1, 1])


def majority():
    """The second example of the document: the outcome that most of three parties want."""
    return Rule([[[1, 0], [0, 1]]] * 3, [0, 0, 0, 1, 0, 1, 1, 1])


def some_rule(seed, sizes, outcomes, least=0, most=4):
    """A rule with these numbers of standings, the same one for the same seed."""
    source = random.Random(seed)
    worths = [[[source.randint(least, most) for _ in range(outcomes)] for _ in range(size)] for size in sizes]
    many = len(list(itertools.product(*[range(size) for size in sizes])))
    return Rule(worths, [source.randrange(outcomes) for _ in range(many)])


def subsets(side):
    """All sets of the side's standings but the empty one, as tuples."""
    return [some for many in range(1, len(side) + 1) for some in itertools.combinations(side, many)]


def boxes_inside(rule):
    """All boxes inside the rule's full box that are not empty."""
    return [Box(sides) for sides in itertools.product(*[subsets(side) for side in rule.full.sides])]


def small_rules():
    """Rules of one to four parties whose boxes can all be looked at."""
    shapes = [(1,), (4,), (2, 2), (3, 2), (1, 3), (3, 3), (2, 2, 2), (3, 1, 2), (2, 2, 1, 2)]
    return [some_rule(seed, shape, 2 + seed % 3, -2, 3) for seed in range(6) for shape in shapes]


def leaf_outcomes(rows):
    """The outcomes of all ends."""
    if rows[0] == "end":
        return [rows[1]]
    return [outcome for _, behind in rows[2] for outcome in leaf_outcomes(behind)]


def grown(source, sides, last, budget, leaves, peel):
    """The rows of a tree with at most `budget` ends, each with an outcome of its own."""
    askable = [party for party, side in enumerate(sides) if len(side) > 1 and party != last]
    if budget < 2 or not askable:
        leaves.append(sides)
        return ("end", len(leaves) - 1)
    party = source.choice(askable)
    side = list(sides[party])
    many = 1
    if not peel:
        source.shuffle(side)
        many = source.randrange(1, len(side))
    first = min(max(1, budget * many // len(side)), budget - 1)
    branches = []
    for cell, part in ((side[:many], first), (side[many:], budget - first)):
        inner = [*sides[:party], sorted(cell), *sides[party + 1:]]
        branches.append((tuple(sorted(cell)), grown(source, inner, party, part, leaves, peel)))
    return ("ask", party, tuple(branches))


def worths_in(source, rows, party, standing, worths):
    """Fill in worths for which honest answers are plainly best; return the honest outcomes."""
    if rows[0] == "end":
        worths[rows[1]] = source.randint(-2, 3)
        return [rows[1]]
    if rows[1] != party:
        return [outcome for _, behind in rows[2] for outcome in worths_in(source, behind, party, standing, worths)]
    for cell, behind in rows[2]:
        if standing in cell:
            honest = worths_in(source, behind, party, standing, worths)
    least = min(worths[outcome] for outcome in honest)
    for cell, behind in rows[2]:
        if standing not in cell:
            for outcome in leaf_outcomes(behind):
                worths[outcome] = least - source.choice([0, 0, 1])
    return honest


def honest_path(rows, combination):
    """The path along which the honest answers of the combination lead, and the outcome."""
    path = []
    while rows[0] == "ask":
        [at] = [at for at, (cell, _) in enumerate(rows[2]) if combination[rows[1]] in cell]
        path.append(at)
        rows = rows[2][at][1]
    return tuple(path), rows[1]


def plain_rule(seed, sizes, ends=60, peel=False):
    """A rule that has a plain tree, and the rows of one, which is seldom a shortest one."""
    source = random.Random(seed)
    leaves = []
    rows = grown(source, [list(range(size)) for size in sizes], None, ends, leaves, peel)
    table = [honest_path(rows, combination)[1] for combination in itertools.product(*map(range, sizes))]
    worths = []
    for party, size in enumerate(sizes):
        worths.append([])
        for standing in range(size):
            own = [None] * len(leaves)
            worths_in(source, rows, party, standing, own)
            worths[-1].append(own)
    return Rule(worths, table), rows


def auction(sizes):
    """The highest bidder gets the thing and pays the second-highest bid; no two bids are the same."""
    parties = len(sizes)
    results = {}
    table = []
    for combination in itertools.product(*map(range, sizes)):
        bids = sorted((standing * parties + party, party) for party, standing in enumerate(combination))
        table.append(results.setdefault((bids[-1][1], bids[-2][0]), len(results)))
    worths = [[[standing * parties + party - price if winner == party else 0 for winner, price in results]
               for standing in range(size)] for party, size in enumerate(sizes)]
    return Rule(worths, table)


def indifferent(sizes, table, outcomes):
    """A rule in which nobody cares, so that every question is plain."""
    return Rule([[[0] * outcomes] * size for size in sizes], table)


def table_of(rule):
    """The outcomes of the rule's combinations, in order."""
    return [rule(combination) for combination in rule.full]


def plain_rules():
    """Small rules that have a plain tree."""
    shapes = [(2,), (4,), (2, 2), (3, 2), (3, 3), (4, 3), (2, 2, 2), (3, 2, 2), (1, 3, 2), (2, 2, 2, 2)]
    grown_rules = [plain_rule(seed, shape, 4 + 3 * seed, seed % 2 == 1)[0] for seed in range(8) for shape in shapes]
    free = [indifferent(shape, table_of(some_rule(seed, shape, 3)), 3) for seed in range(2) for shape in shapes]
    return grown_rules + free + [auction((2, 2)), auction((3, 4)), auction((2, 2, 2)), first_come()]


def chain(questions):
    """A chain of questions to party 0: is it 0, or more? Is it 1, or more? .."""
    rows = ("end", questions)
    for standing in range(questions - 1, -1, -1):
        more = tuple(range(standing + 1, questions + 1))
        rows = ("ask", 0, (((standing,), ("end", standing)), (more, rows)))
    return rows


def grid(first, second):
    """Party 0 is asked for its standing, then party 1; each combination has an outcome of its own."""
    return ("ask", 0, tuple(
        ((one,), ("ask", 1, tuple(((two,), ("end", one * second + two)) for two in range(second))))
        for one in range(first)
    ))
