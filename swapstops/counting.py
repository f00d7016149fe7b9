"""How many standings come in joined nets, and the so-manieth of them."""

from math import factorial

from swapstops.checks import is_integer_between
from swapstops.coming import comes
from swapstops.errors import Unfit
from swapstops.kinds import kind_of
from swapstops.lots import colours
from swapstops.standings import is_odd, row_at, row_number, standing_at, standing_number
from swapstops.waves import steps_to_all


def come_count(net):
    """Return how many standings each standing comes to; Apart() if net is not joined."""
    n = net[0]
    kind = kind_of(net)
    if kind == "lone":
        return 1
    if kind == "ring":
        return n * (n + 1)
    if kind == "five":
        return 600
    many = n * factorial(n + 1)
    return many // 2 if kind == "half" else many


def come_number(net, one, other):
    """Return the number of other among those to which one comes; Apart(), or Unfit() if it is none."""
    if not comes(net, one, other):
        raise Unfit()
    kind = kind_of(net)
    if kind == "all":
        return standing_number(net[0], other)
    if kind == "half":
        return number_in_half(net, one, other)
    return sorted(steps_to_all(net, one)).index(other)


def come_at(net, one, value):
    """Return the standing with the number value to which one comes; Apart(), or Unfit() if there is none."""
    if not is_integer_between(value, 0, come_count(net) - 1):
        raise Unfit()
    kind = kind_of(net)
    if kind == "all":
        return standing_at(net[0], value)
    if kind == "half":
        return standing_in_half(net, one, value)
    return sorted(steps_to_all(net, one))[value]


# Of the rows with the numbers 2 * k and 2 * k + 1 one is even and one is odd, as
# they differ by the exchange of the last two things. So of a half the one comes
# at the stops of the one colour, the other one at the others: at n in all.


def number_in_half(net, one, other):
    """Return the number of other among those to which one comes by a half."""
    row, stop = other
    pair, place = divmod(row_number(row), 2)
    stops = stops_in_half(net, one, row)
    ahead = place * (net[0] - len(stops))
    return pair * net[0] + ahead + stops.index(stop)


def standing_in_half(net, one, number):
    """Return the standing with this number to which one comes by a half."""
    n = net[0]
    pair, spot = divmod(number, n)
    row = row_at(n + 1, 2 * pair)
    stops = stops_in_half(net, one, row)
    if spot < len(stops):
        return (row, stops[spot])
    spot -= len(stops)
    row = row_at(n + 1, 2 * pair + 1)
    return (row, stops_in_half(net, one, row)[spot])


def stops_in_half(net, one, row):
    """Return the stops, ascending, with which one comes to row by a half."""
    shades = colours(net)
    is_odd_way = is_odd(one[0]) != is_odd(row)
    return [stop for stop in range(net[0]) if (shades[stop] != shades[one[1]]) == is_odd_way]
