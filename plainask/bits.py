"""A rule as bits, so that a search can look at many boxes.

A set of combinations or of outcomes is an integer here, with one bit for each member.
"""


def members_of(rule):
    """Return the combinations of each outcome, and those of each standing of each party."""
    outcomes = [0] * rule.outcomes
    standings = [[0] * size for size in rule.sizes]
    bit = 1
    for combination in rule.full:
        outcomes[rule(combination)] |= bit
        for party, standing in enumerate(combination):
            standings[party][standing] |= bit
        bit = bit << 1
    return outcomes, standings


def steps_of(rule, party, standing):
    """Return the outcomes of each worth together with those that are worth more, from the least worth on."""
    same = {}
    for outcome in range(rule.outcomes):
        worth = rule.worth(party, standing, outcome)
        same[worth] = same.get(worth, 0) | 1 << outcome
    better = sum(list(same.values()))
    steps = []
    for worth in sorted([int(known) for known in same]):
        better = better - same[worth]
        steps.append((same[worth], better))
    return steps


def envied(steps, reached):
    """Return the outcomes that are worth more than the worst of those that are reached."""
    for same, better in steps:
        if same & reached:
            return better
    return 0


def joined(cases):
    """Return the groups of standings, each of which comes with what it reaches and with what it envies."""
    groups = []
    for standing, reached, wanted in cases:
        members = [standing]
        apart = []
        for group in groups:
            # What a group reaches and envies is put together, so one look at it finds a tie to any member.
            if wanted & group[1] or reached & group[2]:
                members.extend(group[0])
                reached |= group[1]
                wanted |= group[2]
            else:
                apart.append(group)
        groups = [*apart, (members, reached, wanted)]
    return in_order([group[0] for group in groups])


def in_order(groups):
    """Return the groups as ascending tuples, ordered by their least standings."""
    by_least = {}
    for group in groups:
        ascending = tuple(sorted([int(standing) for standing in group]))
        by_least[ascending[0]] = ascending
    return [by_least[least] for least in sorted([int(least) for least in by_least])]


class Bits:
    """Tells the outcomes and the groups in the boxes of a rule; a box is told by its sides."""

    def __init__(self, rule):
        self.results, self.standings = members_of(rule)
        self.steps = [[steps_of(rule, party, standing) for standing in range(size)]
                      for party, size in enumerate(rule.sizes)]

    def found(self, sides):
        """Return the outcomes in the box, each with its combinations there."""
        # All bits are set in -1.
        inside = -1
        for party, side in enumerate(sides):
            inside &= sum([self.standings[party][standing] for standing in side])
        return {outcome: those & inside for outcome, those in enumerate(self.results) if those & inside}

    def groups_of(self, party, side, found):
        """Return the groups of the party's side in the box where these outcomes have been found."""
        cases = []
        for standing in side:
            own = self.standings[party][standing]
            reached = sum([1 << outcome for outcome, those in found.items() if those & own])
            cases.append((standing, reached, envied(self.steps[party][standing], reached)))
        return joined(cases)
