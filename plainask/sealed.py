"""Sealed rounds: each party hands in one standing, and some lies pay."""

from plainask.combos import replaced

LEAST_GAIN = 1


def gain(rule, party, combination, told):
    """Return what the party gains if it tells this standing in the place of its own."""
    own = combination[party]
    honest = rule.worth(party, own, rule(combination))
    return rule.worth(party, own, rule(replaced(combination, party, told))) - honest


def lies(rule, *, least=LEAST_GAIN):
    """Yield the lies with at least this gain, by combination, by party, then by the standing that is told."""
    for combination in rule.full:
        for party, size in enumerate(rule.sizes):
            for told in range(size):
                # The own standing gains nothing, so it is never among the lies.
                if gain(rule, party, combination, told) >= least:
                    yield (party, combination, told)


def first_lie(rule, *, least=LEAST_GAIN):
    """Return the first lie with at least this gain; None if there is none."""
    for lie in lies(rule, least=least):
        return lie
    return None
