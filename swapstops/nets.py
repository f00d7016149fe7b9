"""Nets: how many stops there are, and the arrows between them."""

from swapstops.bounds import MAX_STOPS
from swapstops.checks import is_integer_between, is_pair


def net_error(value):
    """Return None for a net, otherwise the first thing that is wrong with value."""
    if not has_net_form(value):
        return "form"
    n, arrows = value
    for spot, arrow in enumerate(arrows):
        if not is_arrow(n, arrow):
            return ("arrow", spot)
    # Only now are all items pairs of integers, which can be compared.
    for spot in range(1, len(arrows)):
        if arrows[spot] <= arrows[spot - 1]:
            return ("order", spot)
    return None


def has_net_form(value):
    """Return whether value is a pair of a number of stops and a tuple."""
    if not is_pair(value):
        return False
    n, arrows = value
    return is_integer_between(n, 1, MAX_STOPS) and isinstance(arrows, tuple)


def is_stop(n, value):
    """Return whether value is one of n stops."""
    return is_integer_between(value, 0, n - 1)


def is_arrow(n, value):
    """Return whether value is a pair of two unlike ones of n stops."""
    if not is_pair(value):
        return False
    v, w = value
    return is_stop(n, v) and is_stop(n, w) and v != w


def with_arrow(net, arrow):
    """Return net with an arrow more."""
    n, arrows = net
    return (n, tuple(sorted([*arrows, arrow])))


def without_arrow(net, arrow):
    """Return net without one of its arrows."""
    n, arrows = net
    return (n, tuple([other for other in arrows if other != arrow]))
