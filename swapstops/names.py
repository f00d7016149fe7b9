"""Names of places in nets of the kind "five", and the ratios that they keep."""

from itertools import permutations

from swapstops.checks import is_integer_between
from swapstops.errors import Unfit
from swapstops.kinds import kind_of
from swapstops.runs import done

# Names below it are numbers, modulo it; it is the name that means beyond.
BEYOND = 5


def names(net):
    """Return right names of net; Apart() if it is not joined, Unfit() if it is no five."""
    check_five(net)
    # Right rows of a stop are alike but for a bending, and one bending brings any
    # three names to any three: so just one of these rows can be led all around.
    rows = [(BEYOND, 0, 1, *rest) for rest in permutations([2, 3, 4])]
    tables = [rows_from(net, row) for row in rows]
    return [table for table in tables if are_right(net, table)][0]


def names_hold(net, value):
    """Return whether value is right names of net; Apart() and Unfit() as names."""
    check_five(net)
    return is_table(net[0], value) and are_right(net, value)


def ratio(net, standing, things):
    """Return the ratio of four things of standing; Apart() and Unfit() as names."""
    return ratio_by(names(net), standing, things)


def ratio_by(table, standing, things):
    """Return the ratio of four things of standing, by the right names of table."""
    row, stop = standing
    x, y, z, t = [table[stop][row.index(thing)] for thing in things]
    return ratio_of(x, y, z, t)


def check_five(net):
    """Raise Apart() if net is not joined, Unfit() if it is joined, but no five."""
    if kind_of(net) != "five":
        raise Unfit()


def rows_from(net, row):
    """Return a row for each stop: row for the stop 0, led along arrows to the others."""
    n, arrows = net
    rows = {0: row}
    while len(rows) < n:
        for v, w in arrows:
            if v in rows and w not in rows:
                rows[w] = taken(rows[v], v, w)
    return tuple([rows[stop] for stop in range(n)])


def taken(row, v, w):
    """Return the row of names, each gone where a step from v to w takes what lies there."""
    return done((row, v), (v, w))[0]


def is_table(n, value):
    """Return whether value is a tuple of n rows of names."""
    return isinstance(value, tuple) and len(value) == n and all([is_row(row) for row in value])


def is_row(value):
    """Return whether value is a tuple that has each name once."""
    if not isinstance(value, tuple) or not all([is_integer_between(name, 0, BEYOND) for name in value]):
        return False
    return sorted(value) == list(range(BEYOND + 1))


def are_right(net, table):
    """Return whether along each arrow of net the rows of table are bent to one another."""
    return all([are_bent(taken(table[v], v, w), table[w]) for v, w in net[1]])


def are_bent(row, other):
    """Return whether some bending makes of each name of row the one of other at its place."""
    # One bending brings the first three names there. As it keeps ratios, and three
    # names and a ratio tell a fourth one, it brings the others there, or none does.
    return all([ratio_ahead(row, place) == ratio_ahead(other, place) for place in range(3, len(row))])


def ratio_ahead(row, place):
    """Return the ratio of the first three names of row and the one at place."""
    return ratio_of(row[0], row[1], row[2], row[place])


def ratio_of(x, y, z, t):
    """Return (x - z) * (y - t) / ((x - t) * (y - z)) of four unlike names, modulo 5."""
    above = difference(x, z) * difference(y, t)
    below = difference(x, t) * difference(y, z)
    # Modulo 5 the fourth power of what 5 does not divide is 1: so to divide is
    # to multiply by the third power.
    return above * below ** 3 % BEYOND


def difference(x, y):
    """Return x - y, and 1, which changes no product, if one of both is beyond."""
    return 1 if BEYOND in (x, y) else x - y
