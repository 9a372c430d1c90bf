"""Boxes: the combinations whose standings all lie in given sides."""

from plainask.checks import is_natural
from plainask.combos import every_combination
from plainask.errors import BadBox


def tidy(side):
    """Return the standings of the side, ascending and without duplicates."""
    # Checked before they become keys: 1 and True would be the same key, and a list cannot be one.
    if not all([is_natural(standing) for standing in side]):
        raise BadBox("a standing is not an integer from 0")
    known = {standing: True for standing in side}
    return tuple(sorted([int(standing) for standing in known]))


def shared(side, other):
    """Return the standings of the side that the other side has too."""
    known = set(other)
    return [standing for standing in side if standing in known]


def missing(side, other):
    """Return the standings of the side that the other side does not have."""
    known = set(other)
    return [standing for standing in side if standing not in known]


def common_sides(sides, others):
    """Return for each party the standings that both its sides have."""
    return [shared(side, other) for side, other in zip(sides, others)]


class Box:
    """The combinations with one standing of each side."""

    def __init__(self, sides):
        if not sides:
            raise BadBox("a box has at least one side")
        self.sides = tuple([tidy(side) for side in sides])
        # Kept, so that a box can be iterated over and be seen to be empty at no cost.
        self.members = every_combination(self.sides)

    def __getitem__(self, at):
        return self.sides[at]

    def __iter__(self):
        return iter(self.members)

    def __contains__(self, x):
        if not isinstance(x, tuple) or len(x) != len(self.sides):
            return False
        # In Python, True lies in a side with the standing 1.
        return all([is_natural(standing) and standing in side for standing, side in zip(x, self.sides)])

    def __le__(self, other):
        # An empty box lies in every box, also where its other sides do not.
        if not self.members:
            return True
        return not any([missing(side, theirs) for side, theirs in zip(self.sides, other.sides)])

    def __and__(self, other):
        return Box(common_sides(self.sides, other.sides))

    def __sub__(self, other):
        common = common_sides(self.sides, other.sides)
        pieces = []
        for party, side in enumerate(self.sides):
            rest = missing(side, other.sides[party])
            piece = Box([*common[:party], rest, *self.sides[party + 1:]])
            if piece.members:
                pieces.append(piece)
        return pieces

    def with_side(self, party, side):
        """Return the box with another side in the place of the party's."""
        return Box([*self.sides[:party], side, *self.sides[party + 1:]])
