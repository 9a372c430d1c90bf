"""Trees of questions."""

from plainask.checks import is_list, is_natural
from plainask.errors import BadAnswer, BadTree


def is_end(rows):
    """Tell whether the rows are an end."""
    return is_list(rows) and len(rows) == 2 and rows[0] == "end" and is_natural(rows[1])


def is_question(rows):
    """Tell whether the rows are a question; what stands behind its branches is not looked at."""
    if not is_list(rows) or len(rows) != 3 or rows[0] != "ask":
        return False
    return is_natural(rows[1]) and are_branches(rows[2])


def are_branches(branches):
    """Tell whether the branches are at least two pairs, each with a cell first."""
    if not is_list(branches) or len(branches) < 2:
        return False
    if not all([is_list(branch) and len(branch) == 2 for branch in branches]):
        return False
    return are_cells([branch[0] for branch in branches])


def are_cells(cells):
    """Tell whether each cell has a standing, and no standing occurs twice."""
    if not all([is_list(cell) and len(cell) > 0 for cell in cells]):
        return False
    standings = [standing for cell in cells for standing in cell]
    # Looked at before they become members of a set: a list cannot be one.
    return all([is_natural(standing) for standing in standings]) and len(set(standings)) == len(standings)


def copied(rows, path):
    """Return the rows at the path as tuples throughout; refuse the first place that is invalid."""
    if is_end(rows):
        return ("end", rows[1])
    if not is_question(rows):
        raise BadTree(path)
    branches = []
    for at, (cell, behind) in enumerate(rows[2]):
        ascending = tuple(sorted([int(standing) for standing in cell]))
        branches.append((ascending, copied(behind, (*path, at))))
    return ("ask", rows[1], tuple(branches))


def honest_branch(rows, standing):
    """Return the number of the question's branch whose cell contains the standing; None if there is none."""
    # In Python, True lies in a cell with the standing 1.
    if not is_natural(standing):
        return None
    for at, (cell, behind) in enumerate(rows[2]):
        if standing in cell:
            return at
    return None


def standing_of(combination, party):
    """Return the party's standing; None if the combination has none for it."""
    if party >= len(combination):
        return None
    return combination[party]


def cut_rows(rows, numbers):
    """Return the rows with those standings that have a new number, under this number."""
    if rows[0] == "end":
        return rows
    party = rows[1]
    branches = []
    for cell, behind in rows[2]:
        left = [numbers[party][standing] for standing in cell if standing in numbers[party]]
        if left:
            branches.append((left, cut_rows(behind, numbers)))
    if len(branches) == 1:
        return branches[0][1]
    return ("ask", party, branches)


class Tree:
    """A tree of questions, each to one party."""

    def __init__(self, rows):
        self.rows = copied(rows, ())
        self.length = max([len(path) for path, outcome in self.ends()])

    def __call__(self, combination):
        rows = self.rows
        path = ()
        while rows[0] == "ask":
            at = honest_branch(rows, standing_of(combination, rows[1]))
            if at is None:
                raise BadAnswer(path)
            path = (*path, at)
            rows = rows[2][at][1]
        return rows[1]

    def ends(self):
        """Yield the path and the outcome of each end, ascending by path."""
        waiting = [((), self.rows)]
        while waiting:
            path, rows = waiting.pop()
            if rows[0] == "end":
                yield (path, rows[1])
            else:
                behind = [((*path, at), branch[1]) for at, branch in enumerate(rows[2])]
                waiting.extend(behind[::-1])

    def cut(self, box):
        """Return the tree for the rule cut to the box."""
        numbers = [{standing: at for at, standing in enumerate(side)} for side in box.sides]
        return Tree(cut_rows(self.rows, numbers))
