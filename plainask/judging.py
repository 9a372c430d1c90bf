"""Judging trees: the boxes at their paths, and how well they suit a rule."""

from plainask.boxes import Box, shared
from plainask.checks import is_natural
from plainask.combos import replaced
from plainask.errors import BadAnswer
from plainask.ties import best, examples, worst


def branches_of(rows):
    """Return the branches of the question; none for an end."""
    if rows[0] == "end":
        return ()
    return rows[2]


def narrowed(sides, party, cell):
    """Return the sides with those standings of the party's side that the cell has."""
    return replaced(sides, party, tuple(shared(sides[party], cell)))


def box_at(rule, tree, path):
    """Return the box of the combinations whose honest answers lead along the path."""
    rows = tree.rows
    sides = rule.full.sides
    for at, branch in enumerate(path):
        branches = branches_of(rows)
        if not is_natural(branch) or branch >= len(branches):
            raise BadAnswer(path[:at])
        cell, behind = branches[branch]
        sides = narrowed(sides, rows[1], cell)
        rows = behind
    return Box(sides)


def every_question(rule, tree):
    """Yield the path, the sides of the box and the rows of each question, ascending by path."""
    waiting = [((), rule.full.sides, tree.rows)]
    while waiting:
        path, sides, rows = waiting.pop()
        if rows[0] == "end":
            continue
        yield (path, sides, rows)
        behind = []
        for at, (cell, rest) in enumerate(rows[2]):
            behind.append(((*path, at), narrowed(sides, rows[1], cell), rest))
        waiting.extend(behind[::-1])


def fits(rule, tree):
    """Tell whether each question's cells have the standings that its party can still have, and no others."""
    for path, sides, rows in every_question(rule, tree):
        party = rows[1]
        if party >= rule.parties:
            return False
        told = [standing for cell, behind in rows[2] for standing in cell]
        if tuple(sorted([int(standing) for standing in told])) != sides[party]:
            return False
    return True


def first_wrong(rule, tree):
    """Return the first combination that the tree leads to another outcome than the rule's; None if there is none."""
    for combination in rule.full:
        if tree(combination) != rule(combination):
            return combination
    return None


def lures_in(rule, party, cases, cell):
    """Return the floor and the promise for each standing of the cell for which the promise is the greater one."""
    # Each outcome once: many standings can lead to the same one.
    away = {outcome: True for standing in cases if standing not in cell for outcome in cases[standing]}
    found = {}
    for standing in cell:
        low = rule.worth(party, standing, worst(rule, party, standing, cases[standing]))
        high = rule.worth(party, standing, best(rule, party, standing, away))
        if low < high:
            found[standing] = (low, high)
    return found


def lures(rule, tree):
    """Return the path, the standing, the floor and the promise wherever the promise is the greater one."""
    found = []
    for path, sides, rows in every_question(rule, tree):
        party = rows[1]
        cases = examples(rule, Box(sides), party)
        here = {}
        for cell, behind in rows[2]:
            here.update(lures_in(rule, party, cases, cell))
        found.extend([(path, standing, *here[standing]) for standing in sides[party] if standing in here])
    return found


def whole_branch(rows, standings):
    """Return the number of the question's branch whose cell contains all the standings; None if there is none."""
    for at, (cell, behind) in enumerate(rows[2]):
        if all([standing in cell for standing in standings]):
            return at
    return None


def parting(box, tree):
    """Return the path of the first question whose cells part the asked party's side; None if an end is reached."""
    rows = tree.rows
    path = ()
    while rows[0] == "ask":
        at = whole_branch(rows, box[rows[1]])
        if at is None:
            return path
        path = (*path, at)
        rows = rows[2][at][1]
    return None
