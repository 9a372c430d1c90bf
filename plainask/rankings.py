"""Rankings, the full rules over them, and the verdict on a rule."""

from plainask.rules import Rule
from plainask.sealed import first_lie


def rankings(outcomes):
    """Return all rankings of so many outcomes, ascending."""
    found = [()]
    for place in range(outcomes):
        found = [(*start, outcome) for start in found for outcome in range(outcomes) if outcome not in start]
    return found


def ranked_worths(ranking):
    """Return for each outcome the number of outcomes that are ranked below it."""
    return [len(ranking) - 1 - ranking.index(outcome) for outcome in range(len(ranking))]


def full_rule(parties, outcomes, table):
    """Return the rule with this table in which each party has every ranking as a standing."""
    worths = [ranked_worths(ranking) for ranking in rankings(outcomes)]
    return Rule([worths] * parties, table)


def gets_its_best(rule, party, combination):
    """Tell whether no outcome is worth more to the party than the rule's outcome."""
    own = combination[party]
    worths = [rule.worth(party, own, outcome) for outcome in range(rule.outcomes)]
    return not any([worth > worths[rule(combination)] for worth in worths])


def dictator(rule):
    """Return the least party that gets its best outcome for every combination; None if there is none."""
    for party in range(rule.parties):
        if all([gets_its_best(rule, party, combination) for combination in rule.full]):
            return party
    return None


def never(rule):
    """Return the outcomes that are the outcome of no combination, ascending."""
    known = {rule(combination): True for combination in rule.full}
    return tuple([outcome for outcome in range(rule.outcomes) if outcome not in known])


def verdict(rule):
    """Return the first that applies: an outcome that never comes, a dictator, a lie that pays; otherwise None."""
    unused = never(rule)
    if unused:
        return ("never", unused[0])
    party = dictator(rule)
    if party is not None:
        return ("dictator", party)
    lie = first_lie(rule)
    if lie is not None:
        return ("lie", *lie)
    return None
