"""What comes to what in joined nets, and papers which tell that something does not come."""

from swapstops.checks import is_integer_between, is_pair
from swapstops.kinds import kind_of
from swapstops.lots import colours, leads
from swapstops.names import names, ratio_by
from swapstops.standings import is_odd

# Three names and a ratio tell a fourth one, and then one thing is left: so of
# six things the ratios of these two fours tell all others.
FOURS = ((0, 1, 2, 3), (0, 1, 2, 4))


def comes(net, one, other):
    """Return whether one comes to other; Apart() if net is not joined."""
    return bar(net, one, other) is None


def bar(net, one, other):
    """Return None if one comes to other, otherwise a paper; Apart() if net is not joined."""
    kind = kind_of(net)
    for paper in papers(kind, net[0]):
        if is_paper(kind, net, one, other, paper):
            return paper
    return None


def bar_holds(net, one, other, value):
    """Return whether value is a paper of net, one and other; Apart() if net is not joined."""
    return is_paper(kind_of(net), net, one, other, value)


def papers(kind, n):
    """Return papers of which one is right wherever some paper is."""
    if kind == "lone":
        return [("still",)]
    if kind == "half":
        return [("sign",)]
    if kind == "ring":
        return [("next", thing) for thing in range(n + 1)]
    if kind == "five":
        return [("ratio", things) for things in FOURS]
    return []


def is_paper(kind, net, one, other, value):
    """Return whether value is a paper of net, which is of this kind, one and other."""
    if kind == "lone":
        return value == ("still",) and one != other
    if kind == "half":
        return value == ("sign",) and are_signs_apart(net, one, other)
    if not is_pair(value):
        return False
    word, told = value
    if kind == "ring":
        if word != "next" or not is_integer_between(told, 0, net[0]):
            return False
        return follower(net, one, told) != follower(net, other, told)
    if kind == "five":
        if word != "ratio" or not are_four_things(told):
            return False
        table = names(net)
        return ratio_by(table, one, told) != ratio_by(table, other, told)
    return False


def are_signs_apart(net, one, other):
    """Return whether in a half the exchanges from one to other do not go with the colours."""
    shades = colours(net)
    is_odd_way = is_odd(one[0]) != is_odd(other[0])
    return is_odd_way != (shades[one[1]] != shades[other[1]])


def follower(net, standing, thing):
    """Return the thing that follows behind thing where standing is read round a ring."""
    row, stop = standing
    ahead = leads(net)
    read = [row[-1]]
    while len(read) < len(row):
        read.append(row[stop])
        stop = ahead[stop][0]
    return read[(read.index(thing) + 1) % len(read)]


def are_four_things(value):
    """Return whether value is a tuple of four unlike ones of the six things of a five."""
    if not isinstance(value, tuple) or len(value) != 4:
        return False
    if not all([is_integer_between(thing, 0, 5) for thing in value]):
        return False
    return len(set(value)) == 4
