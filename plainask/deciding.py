"""Deciding whether a rule has a plain tree: a shortest one, or a box that shows that there is none."""

from plainask.boxes import Box
from plainask.search import Search
from plainask.trees import Tree

MOST_QUESTIONS = 100


def questions_due(rule, box):
    """Return the least length of a plain tree for the rule cut to the box; None if it has none."""
    search = Search(rule)
    if search.stuck(box.sides) is not None:
        return None
    return search.due(box.sides)


def shortest_tree(rule, *, most=MOST_QUESTIONS):
    """Return a shortest plain tree; None if there is none of at most so many questions."""
    search = Search(rule)
    sides = rule.full.sides
    if search.stuck(sides) is not None or search.due(sides) > most:
        return None
    return Tree(search.planned(sides))


def stuck_box(rule):
    """Return a stuck box inside the full box; None if the rule has a plain tree."""
    sides = Search(rule).stuck(rule.full.sides)
    if sides is None:
        return None
    return Box(sides)
