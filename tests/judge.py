"""The document's words on trees, told once more by plain searches over all combinations."""

import itertools

from tests.samples import honest_path


def partitions(side):
    """All ways to part the side into cells, the whole side as a single cell included."""
    if len(side) == 1:
        return [[tuple(side)]]
    found = []
    for cells in partitions(side[1:]):
        found.append([(side[0],), *cells])
        for at, cell in enumerate(cells):
            found.append([*cells[:at], (side[0], *cell), *cells[at + 1:]])
    return found


def places(rows, path=()):
    """Every path that leads to a place, with the rows there, ascending."""
    found = [(path, rows)]
    if rows[0] == "ask":
        for at, (_, behind) in enumerate(rows[2]):
            found.extend(places(behind, (*path, at)))
    return found


def standings_at(combinations, party):
    return tuple(sorted({combination[party] for combination in combinations}))


def led_along(rule, rows, path):
    """The rule's combinations whose honest answers lead along the path (point 10)."""
    return [combination for combination in rule.full if honest_path(rows, combination)[0][:len(path)] == path]


def floor_in(rule, combinations, party, standing):
    """Point 7, word by word."""
    return min(rule.worth(party, standing, rule(combination))
               for combination in combinations if combination[party] == standing)


def promise_in(rule, combinations, party, standing, cell):
    """Point 7, word by word; None if no combination is left."""
    return max((rule.worth(party, standing, rule(combination))
                for combination in combinations if combination[party] not in cell), default=None)


def is_plain_question(rule, combinations, party, cells):
    """Point 7, word by word."""
    for cell in cells:
        for standing in cell:
            high = promise_in(rule, combinations, party, standing, cell)
            if high is not None and floor_in(rule, combinations, party, standing) < high:
                return False
    return True


def expected_lures(rule, rows):
    """What `lures` returns for a tree with these rows, which fits the rule."""
    found = []
    for path, here in places(rows):
        if here[0] == "end":
            continue
        inside = led_along(rule, rows, path)
        for standing in standings_at(inside, here[1]):
            [cell] = [cell for cell, _ in here[2] if standing in cell]
            low = floor_in(rule, inside, here[1], standing)
            high = promise_in(rule, inside, here[1], standing, cell)
            if low < high:
                found.append((path, standing, low, high))
    return found


def is_plain_tree(rule, rows):
    """Point 11, word by word, for rows that are those of a tree."""
    def plain_below(here, sides):
        inside = list(itertools.product(*sides))
        if here[0] == "end":
            return all(rule(combination) == here[1] for combination in inside)
        _, party, branches = here
        if party >= len(sides) or sorted(standing for cell, _ in branches for standing in cell) != list(sides[party]):
            return False
        if not is_plain_question(rule, inside, party, [cell for cell, _ in branches]):
            return False
        return all(plain_below(behind, [*sides[:party], cell, *sides[party + 1:]]) for cell, behind in branches)

    return plain_below(rows, rule.full.sides)


def least_length(rule, sides, known=None):
    """The least length of a plain tree for the box, found by trying every question; None if it has none."""
    known = {} if known is None else known
    if sides in known:
        return known[sides]
    inside = list(itertools.product(*sides))
    found = None
    if len({rule(combination) for combination in inside}) == 1:
        found = 0
    else:
        for party, side in enumerate(sides):
            for cells in partitions(side):
                if len(cells) == 1 or not is_plain_question(rule, inside, party, cells):
                    continue
                behind = [least_length(rule, (*sides[:party], cell, *sides[party + 1:]), known) for cell in cells]
                if None not in behind and (found is None or 1 + max(behind) < found):
                    found = 1 + max(behind)
    known[sides] = found
    return found


def groups_in(rule, sides, party):
    """The groups of point 8, by the definition of tied standings."""
    inside = list(itertools.product(*sides))
    parts = [{standing} for standing in sides[party]]
    for own in inside:
        for other in inside:
            mine = own[party]
            if mine == other[party] or rule.worth(party, mine, rule(own)) >= rule.worth(party, mine, rule(other)):
                continue
            joined = [part for part in parts if mine in part or other[party] in part]
            parts = [part for part in parts if part not in joined] + [set().union(*joined)]
    return sorted(tuple(sorted(part)) for part in parts)


def is_stuck(rule, sides):
    """Point 13: some side has two standings or more, and each side is a single group."""
    return max(map(len, sides)) > 1 and all(len(groups_in(rule, sides, party)) == 1 for party in range(len(sides)))
