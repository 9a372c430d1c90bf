"""What a party can get in a box, and which of its standings no plain question can part."""

from plainask.boxes import missing


def reach(rule, box, party, standing):
    """Return the outcomes that the standing can lead to in the box, ascending."""
    known = {rule(combination): True for combination in box.with_side(party, [standing])}
    return tuple(sorted([int(outcome) for outcome in known]))


def worths_in(rule, box, party, standing):
    """Return what the rule's outcomes in the box are worth to the party in the standing."""
    return [rule.worth(party, standing, rule(combination)) for combination in box]


def floor(rule, box, party, standing):
    """Return the worst that can follow from honest answers."""
    worths = worths_in(rule, box.with_side(party, [standing]), party, standing)
    return min([int(worth) for worth in worths])


def promise(rule, box, party, standing, cell):
    """Return the best that can follow if another cell is said to be the right one; None if nothing can."""
    rest = missing(box[party], cell)
    if not rest:
        return None
    worths = worths_in(rule, box.with_side(party, rest), party, standing)
    return max([int(worth) for worth in worths])


def examples(rule, box, party):
    """Return for each standing of the side: the outcomes that it can lead to, each with a combination."""
    found = {standing: {} for standing in box[party]}
    for combination in box:
        known = found[combination[party]]
        known[rule(combination)] = combination
    return found


def worst(rule, party, standing, outcomes):
    """Return an outcome that is worth least to the party in the standing."""
    found = None
    for outcome in outcomes:
        if found is None or rule.worth(party, standing, outcome) < rule.worth(party, standing, found):
            found = outcome
    return found


def best(rule, party, standing, outcomes):
    """Return an outcome that is worth most to the party in the standing."""
    found = None
    for outcome in outcomes:
        if found is None or rule.worth(party, standing, outcome) > rule.worth(party, standing, found):
            found = outcome
    return found


def envy(rule, party, cases, mine, theirs):
    """Return a witness whose `own` has the standing `mine` and whose `other` has `theirs`; None if there is none."""
    own = worst(rule, party, mine, cases[mine])
    other = best(rule, party, mine, cases[theirs])
    if rule.worth(party, mine, own) < rule.worth(party, mine, other):
        return (cases[mine][own], cases[theirs][other])
    return None


def either_envy(rule, party, cases, first, second):
    """Return a witness for the two standings, whichever of them envies the other; None if neither does."""
    found = envy(rule, party, cases, first, second)
    if found is None:
        found = envy(rule, party, cases, second, first)
    return found


def tie(rule, box, party, first, second):
    """Return a witness that the two standings are tied in the box; None if they are not."""
    cases = examples(rule, box.with_side(party, [first, second]), party)
    return either_envy(rule, party, cases, first, second)


def links(rule, box, party):
    """Return witnesses, no more than needed, that join the standings of each group by chains."""
    cases = examples(rule, box, party)
    side = box[party]
    # Standings that the witnesses found so far join have the same name.
    names = {standing: standing for standing in side}
    found = []
    for at, second in enumerate(side):
        for first in side[:at]:
            if names[first] == names[second]:
                continue
            witness = either_envy(rule, party, cases, first, second)
            if witness is not None:
                found.append(witness)
                names = renamed(names, names[first], names[second])
    return found


def renamed(names, old, new):
    """Return the names with the new one in the place of the old one."""
    return {standing: new if name == old else name for standing, name in names.items()}


def groups(rule, box, party):
    """Return the groups as ascending tuples, ordered by their least standings."""
    names = {standing: standing for standing in box[party]}
    for own, other in links(rule, box, party):
        names = renamed(names, names[own[party]], names[other[party]])
    members = {name: [] for name in names.values()}
    for standing, name in names.items():
        members[name].append(standing)
    return [tuple(group) for group in members.values()]
