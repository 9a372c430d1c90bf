"""The search for the least number of plain questions."""

from plainask.bits import Bits
from plainask.combos import replaced


class Search:
    """Finds the questions due in the boxes of one rule; a box is told by its sides.

    All that has been found out about a box is kept, as the same box is reached in many ways.
    """

    def __init__(self, rule):
        self.bits = Bits(rule)
        self.looks = {}
        self.least = {}
        self.plans = {}

    def look(self, sides):
        """Return the only outcome in the box, and the groups of each party that can be asked.

        The outcome is None if there are several. No party is asked if there is only one.
        """
        if sides not in self.looks:
            found = self.bits.found(sides)
            if len(found) == 1:
                self.looks[sides] = (list(found)[0], {})
            else:
                groups = [self.bits.groups_of(party, side, found) for party, side in enumerate(sides)]
                self.looks[sides] = (None, {party: parts for party, parts in enumerate(groups) if len(parts) > 1})
        return self.looks[sides]

    def stuck(self, sides):
        """Return the sides of a stuck box inside the box; None if there is none."""
        waiting = [sides]
        while waiting:
            inner = waiting.pop()
            outcome, choices = self.look(inner)
            if outcome is not None:
                continue
            if not choices:
                return inner
            # Whoever is asked: a stuck box stays inside one of the smaller boxes.
            party = list(choices)[0]
            waiting.extend([replaced(inner, party, part) for part in choices[party]])
        return None

    def enough(self, sides, count):
        """Tell whether so many questions are enough for the box, which contains no stuck box."""
        outcome, choices = self.look(sides)
        if outcome is not None:
            return count >= 0
        if count < self.least.get(sides, 1):
            return False
        if sides in self.plans and self.plans[sides][0] <= count:
            return True
        for party, parts in choices.items():
            if self.all_enough(sides, party, parts, count - 1):
                self.plans[sides] = (count, party)
                return True
        self.least[sides] = count + 1
        return False

    def all_enough(self, sides, party, parts, count):
        """Tell whether so many questions are enough behind each answer."""
        # The greatest parts first: they are the ones for which the questions are least likely to be enough.
        for part in sorted(parts, key=len, reverse=True):
            if not self.enough(replaced(sides, party, part), count):
                return False
        return True

    def due(self, sides):
        """Return the number of questions due in the box, which contains no stuck box."""
        count = 0
        while not self.enough(sides, count):
            count += 1
        return count

    def planned(self, sides):
        """Return the rows of a tree for the box with no more questions than were found to be enough for it."""
        outcome, choices = self.look(sides)
        if outcome is not None:
            return ("end", outcome)
        party = self.plans[sides][1]
        parts = choices[party]
        return ("ask", party, [(part, self.planned(replaced(sides, party, part))) for part in parts])
