"""Lots: stops that all come to one another; beats of their rounds, and colours."""

from math import gcd

from swapstops.errors import Apart, Unfit


def lots(net):
    """Return the ascending tuple of all lots of net."""
    n = net[0]
    reach = [fewest_from(net, stop) for stop in range(n)]
    found = []
    for stop in range(n):
        lot = [other for other in range(n) if other in reach[stop] and stop in reach[other]]
        if lot[0] == stop:
            found.append(tuple(lot))
    return tuple(found)


def onward(net):
    """Return the ascending tuple of all pairs of lots, by their numbers, that arrows join."""
    numbers = {}
    for number, lot in enumerate(lots(net)):
        for stop in lot:
            numbers[stop] = number
    joints = [(numbers[v], numbers[w]) for v, w in net[1]]
    return tuple(sorted({(i, j) for i, j in joints if i != j}))


def beat(net, stop):
    """Return what divides the numbers of steps of all rounds that begin at stop, and is greatest."""
    own = [lot for lot in lots(net) if stop in lot][0]
    fewest = fewest_from(net, stop)
    # Along an arrow the fewest steps grow by one, but for a slip. Round by round
    # the slips add up to the number of steps, and each slip is a multiple of the
    # beat: the arrow closes two rounds that differ by it.
    greatest = 0
    for v, w in net[1]:
        if v in own and w in own:
            greatest = gcd(greatest, fewest[v] + 1 - fewest[w])
    return greatest


def colours(net):
    """Return the colour of each stop; Apart() if net is not joined, Unfit() if its beat is odd."""
    if not is_joined(net):
        raise Apart()
    if beat(net, 0) % 2 == 1:
        raise Unfit()
    fewest = fewest_from(net, 0)
    return tuple([fewest[stop] % 2 for stop in range(net[0])])


def is_joined(net):
    """Return whether all stops of net are one lot."""
    return len(lots(net)) == 1


def fewest_from(net, stop):
    """Return a dict with each stop to which stop comes, and the fewest steps to it."""
    ahead = leads(net)
    fewest = {stop: 0}
    front = [stop]
    while front:
        beyond = []
        for v in front:
            for w in ahead[v]:
                if w not in fewest:
                    fewest[w] = fewest[v] + 1
                    beyond.append(w)
        front = beyond
    return fewest


def leads(net):
    """Return a list with the stops to which each stop leads."""
    n, arrows = net
    ahead = [[] for _ in range(n)]
    for v, w in arrows:
        ahead[v].append(w)
    return ahead
