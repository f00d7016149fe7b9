"""Lots: stops that all come to one another; beats of their rounds, and colours."""

from math import gcd

from swapstops.errors import Apart, Unfit


def lots(net):
    """Return the ascending tuple of all lots of net."""
    found = []
    for stop in range(net[0]):
        if not any([stop in lot for lot in found]):
            found.append(lot_of(net, stop))
    return tuple(found)


def onward(net):
    """Return the ascending tuple of all pairs of lots, by their numbers, that arrows join."""
    numbers = {}
    for number, lot in enumerate(lots(net)):
        for stop in lot:
            numbers[stop] = number
    joints = [(numbers[v], numbers[w]) for v, w in net[1]]
    return tuple(sorted({(i, j) for i, j in joints if i != j}))


def beat(net, stop):
    """Return what divides the numbers of steps of all rounds that begin at stop, and is greatest."""
    own = lot_of(net, stop)
    fewest = fewest_from(net, stop)
    # Along an arrow the fewest steps grow by one, but for a slip. Round by round
    # the slips add up to the number of steps, and each slip is a multiple of the
    # beat: the arrow closes two rounds that differ by it.
    greatest = 0
    for v, w in net[1]:
        if v in own and w in own:
            greatest = gcd(greatest, fewest[v] + 1 - fewest[w])
    return greatest


def colours(net):
    """Return the colour of each stop; Apart() if net is not joined, Unfit() if its beat is odd."""
    if not is_joined(net):
        raise Apart()
    if beat(net, 0) % 2 == 1:
        raise Unfit()
    fewest = fewest_from(net, 0)
    return tuple([fewest[stop] % 2 for stop in range(net[0])])


def is_joined(net):
    """Return whether all stops of net are one lot."""
    return len(lot_of(net, 0)) == net[0]


def lot_of(net, stop):
    """Return the lot of net in which stop is."""
    n, arrows = net
    onto = fewest_from(net, stop)
    back = fewest_from((n, tuple([(w, v) for v, w in arrows])), stop)
    return tuple([other for other in range(n) if other in onto and other in back])


def lot_net(net, lot):
    """Return the net of the stops of lot by themselves, each called by its spot in lot."""
    inner = [(lot.index(v), lot.index(w)) for v, w in net[1] if v in lot and w in lot]
    return (len(lot), tuple(inner))


def fewest_from(net, stop):
    """Return a dict with each stop to which stop comes, and the fewest steps to it."""
    ahead = leads(net)
    return spread(stop, lambda v: ahead[v])


def spread(first, onward_from):
    """Return a dict with all to which first comes, and the fewest steps to each of it.

    onward_from returns the list of those to which a step leads from the one that it is passed.
    """
    fewest = {first: 0}
    front = [first]
    while front:
        beyond = []
        for one in front:
            for other in onward_from(one):
                if other not in fewest:
                    fewest[other] = fewest[one] + 1
                    beyond.append(other)
        front = beyond
    return fewest


def leads(net):
    """Return a list with the stops to which each stop leads."""
    n, arrows = net
    ahead = [[] for _ in range(n)]
    for v, w in arrows:
        ahead[v].append(w)
    return ahead
