"""Kinds of joined nets: what their rounds can do with the things."""

from itertools import permutations

from swapstops.errors import Apart
from swapstops.lots import beat, is_joined

# The arrows of both nets of the kind "five": two rings of three with one stop
# in common, and a ring of three and one of four with an arrow in common.
FIVES = (
    ((0, 1), (0, 3), (1, 2), (2, 0), (3, 4), (4, 0)),
    ((0, 1), (0, 3), (1, 2), (2, 0), (3, 4), (4, 2)),
)


def kind_of(net):
    """Return the kind of net, the first one that applies; Apart() if net is not joined."""
    if not is_joined(net):
        raise Apart()
    if net[0] == 1:
        return "lone"
    if is_ring(net):
        return "ring"
    if is_five(net):
        return "five"
    if beat(net, 0) % 2 == 0:
        return "half"
    return "all"


def is_ring(net):
    """Return whether the joined net has three stops or more, and just one arrow from each."""
    n, arrows = net
    # An arrow leads from each stop anyhow, as it comes to others: so counting tells.
    return n >= 3 and len(arrows) == n


def is_five(net):
    """Return whether the stops of net can be called so that its arrows are those of a five."""
    n, arrows = net
    if n != 5 or len(arrows) != 6:
        return False
    for called in permutations(range(5)):
        if tuple(sorted([(called[v], called[w]) for v, w in arrows])) in FIVES:
            return True
    return False
