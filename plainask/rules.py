"""Rules: what each outcome is worth to each party, and the outcome of each combination."""

from plainask.boxes import Box
from plainask.checks import is_integer, is_list, is_natural
from plainask.errors import BadBox, BadRule


def is_full_list(value):
    """Tell whether the value is a list of at least one item."""
    return is_list(value) and len(value) > 0


def are_worths(worths):
    """Tell whether each standing of each party has a row of worths, all equally long."""
    if not is_full_list(worths) or not all([is_full_list(rows) for rows in worths]):
        return False
    every_row = [row for rows in worths for row in rows]
    if not all([is_full_list(row) for row in every_row]):
        return False
    if any([len(row) != len(every_row[0]) for row in every_row]):
        return False
    return all([is_integer(worth) for row in every_row for worth in row])


def product(numbers):
    """Return the product of the numbers."""
    result = 1
    for number in numbers:
        result = result * number
    return result


def is_table(table, sizes, outcomes):
    """Tell whether the table has an outcome for each combination of standings."""
    # Counted, not listed: without a limit on the sizes the combinations can be too many to list.
    if not is_list(table) or len(table) != product(sizes):
        return False
    return all([is_natural(outcome) and outcome < outcomes for outcome in table])


class Rule:
    """Gives one outcome for each combination of standings."""

    def __init__(self, worths, table):
        if not are_worths(worths):
            raise BadRule("worths")
        self.parties = len(worths)
        self.outcomes = len(worths[0][0])
        self.sizes = tuple([len(rows) for rows in worths])
        if not is_table(table, self.sizes, self.outcomes):
            raise BadRule("table")
        self.full = Box([list(range(size)) for size in self.sizes])
        self.worths = tuple([tuple([tuple(row) for row in rows]) for rows in worths])
        self.chosen = {combination: outcome for combination, outcome in zip(self.full, table)}

    def __call__(self, combination):
        return self.chosen[combination]

    def worth(self, party, standing, outcome):
        """Return what the outcome is worth to the party in the standing."""
        return self.worths[party][standing][outcome]

    def cut(self, box):
        """Return the rule for the standings in the box, numbered anew."""
        if () in box.sides:
            raise BadBox("a rule is not cut to an empty box")
        if len(box.sides) != self.parties:
            raise BadBox("the box has another number of sides than the rule has parties")
        if not box <= self.full:
            raise BadBox("the box has a standing that the rule does not have")
        worths = [[self.worths[party][standing] for standing in side] for party, side in enumerate(box.sides)]
        return Rule(worths, [self.chosen[combination] for combination in box])
