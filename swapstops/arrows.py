"""Arrows that free a joined net, and arrows that it does not need."""

from itertools import permutations

from swapstops.errors import Unfit
from swapstops.kinds import kind_of
from swapstops.lots import is_joined
from swapstops.nets import with_arrow, without_arrow


def freeing(net):
    """Return an arrow with which net lets all come; Apart() if it is not joined, Unfit() if it has none."""
    n, arrows = net
    if kind_of(net) == "all" or n < 3:
        raise Unfit()
    absent = [arrow for arrow in permutations(range(n), 2) if arrow not in arrows]
    return [arrow for arrow in absent if kind_of(with_arrow(net, arrow)) == "all"][0]


def spare(net):
    """Return the ascending tuple of the arrows without which net is joined and alike; Apart() if it is not joined."""
    kind = kind_of(net)
    return tuple([arrow for arrow in net[1] if is_spare(kind, without_arrow(net, arrow))])


def is_spare(kind, rest):
    """Return whether rest, a net of this kind without an arrow, is joined and alike the net."""
    # Of a half the arrows that are left tell the same colours as all did; and a
    # ring, or a five, is none any more.
    return is_joined(rest) and kind_of(rest) == kind
