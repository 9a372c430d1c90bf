"""Combinations: one standing of each side."""


def combinations(sides):
    """Yield each combination as a tuple; the last side changes fastest."""
    kept = [list(side) for side in sides]
    # Looked for first: long sides before an empty one would take long to walk through in vain.
    if [] in kept:
        return
    if not kept:
        yield ()
        return
    front = kept[:-1]
    last = kept[-1]
    for start in combinations(front):
        for standing in last:
            yield (*start, standing)


def every_combination(sides):
    """Return a tuple of what `combinations` yields for the same tuple of tuples.

    The operators of a box come here: none of them may run a generator.
    """
    if () in sides:
        return ()
    found = [()]
    for side in sides:
        found = [(*start, standing) for start in found for standing in side]
    return tuple(found)


def replaced(items, at, item):
    """Return the items as a tuple, with another one at the index."""
    return (*items[:at], item, *items[at + 1:])
