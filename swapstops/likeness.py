"""Joined nets that are alike: by which the same standings come to the same ones."""

from swapstops.coming import comes
from swapstops.errors import Unfit
from swapstops.kinds import kind_of
from swapstops.lots import colours
from swapstops.runs import done


def alike(one, other):
    """Return whether both nets are alike; Apart() if one is not joined, Unfit() if they have not as many stops."""
    kinds = (kind_of(one), kind_of(other))
    if one[0] != other[0]:
        raise Unfit()
    if kinds == ("all", "all"):
        return True
    if kinds == ("half", "half"):
        return colours(one) == colours(other)
    return one == other


def parting(one, other):
    """Return two standings of which the first comes to the second by just one of both nets, None if they are alike.

    Errors are those of alike.
    """
    if alike(one, other):
        return None
    # All that comes by a net comes by its steps, whatever things are called: so
    # nets whose steps all lead to what comes by the other one are alike.
    ends = parting_step(one, other)
    return parting_step(other, one) if ends is None else ends


def parting_step(net, other):
    """Return both ends of a step of net such that the second does not come by other, None if there is none."""
    row = tuple(range(net[0] + 1))
    for v, w in net[1]:
        first = (row, v)
        second = done(first, (v, w))
        if not comes(other, first, second):
            return (first, second)
    return None
