"""Delay books: they show that no plain tree is shorter than the shortest one."""

from plainask.combos import replaced
from plainask.judging import whole_branch
from plainask.search import Search


def slow_group(search, sides, party, due):
    """Return a group of the party behind which at least `due - 1` questions are due."""
    choices = search.look(sides)[1]
    for part in choices.get(party, []):
        if not search.enough(replaced(sides, party, part), due - 2):
            return part
    # A party with such groups has one that is slow, or fewer than `due` questions would be enough for the box.
    return sides[party]


def delay_row(search, sides, due):
    """Return the row of a delay book for the box."""
    answers = [slow_group(search, sides, party, due) for party in range(len(sides))]
    return (sides, due, tuple(answers))


def boxes_behind(row):
    """Return the sides of the smaller boxes in which an answer of the row replaces its party's side."""
    sides, due, answers = row
    smaller = [replaced(sides, party, answer) for party, answer in enumerate(answers)]
    return [inner for inner in smaller if inner != sides]


def delay_book(rule):
    """Return a delay book; None if the rule has no plain tree."""
    search = Search(rule)
    full = rule.full.sides
    if search.stuck(full) is not None:
        return None
    rows = {}
    waiting = [full]
    # From the greatest number down, so that a box first comes with the greatest number that it is needed for.
    for due in range(search.due(full), 0, -1):
        # Kept as keys: the same box can wait behind several rows, but its own row comes once.
        fresh = {sides: True for sides in waiting if sides not in rows}
        for sides in fresh:
            rows[sides] = delay_row(search, sides, due)
        waiting = [inner for sides in fresh for inner in boxes_behind(rows[sides])]
    return list(rows.values())


def delayed_step(rows, sides, answers):
    """Return the number of the branch to go along, None if there is none, and the sides behind it."""
    party = rows[1]
    at = whole_branch(rows, sides[party])
    if at is not None or sides not in answers:
        return at, sides
    answer = answers[sides][party]
    return whole_branch(rows, answer), replaced(sides, party, answer)


def delayed_path(book, tree):
    """Return the path along which the answers of the book lead in the tree."""
    path = ()
    if not book:
        return path
    answers = {row[0]: row[2] for row in book}
    sides = book[0][0]
    rows = tree.rows
    while rows[0] == "ask":
        at, sides = delayed_step(rows, sides, answers)
        if at is None:
            return path
        path = (*path, at)
        rows = rows[2][at][1]
    return path
