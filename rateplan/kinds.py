"""Kinds of roads: slow and fast beats, of which at most so many are slow in any so many behind one another."""

from rateplan.wholes import is_whole


def is_of_kind(kind, thing):
    """Tell whether the thing is a road of the kind (slow, fast, many, wide): a tuple of speeds beat by beat."""
    slow, fast, many, wide = kind
    if not isinstance(thing, tuple):
        return False
    if not all([is_whole(speed) and speed in (slow, fast) for speed in thing]):
        return False
    # Where the window is not yet full, or no longer, it holds fewer beats, so these are asked along with the rest.
    window = 0
    for at, speed in enumerate(thing):
        window += 1 if speed == slow else 0
        if at >= wide and thing[at - wide] == slow:
            window -= 1
        if window > many:
            return False
    return True
