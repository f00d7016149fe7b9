"""Standings: what lies in the cells and in the register, and where control stands."""

from math import factorial

from swapstops.checks import is_integer_between, is_pair
from swapstops.errors import Unfit
from swapstops.nets import is_stop


def standing_error(n, value):
    """Return None for a standing of n stops, otherwise the first thing that is wrong with value."""
    if not has_standing_form(n, value):
        return "form"
    row, stop = value
    for place, thing in enumerate(row):
        if not is_integer_between(thing, 0, n):
            return ("thing", place)
    # Only now are all things integers: a True would be taken for a 1.
    for place, thing in enumerate(row):
        if thing in row[:place]:
            return ("twice", place)
    if not is_stop(n, stop):
        return "stop"
    return None


def has_standing_form(n, value):
    """Return whether value is a pair whose first item is a tuple with an item for each place."""
    if not is_pair(value):
        return False
    row = value[0]
    return isinstance(row, tuple) and len(row) == n + 1


def standing_number(n, standing):
    """Return how many standings of n stops are less than standing."""
    row, stop = standing
    return row_number(row) * n + stop


def standing_at(n, value):
    """Return the standing of n stops whose number value is; Unfit() if there is none."""
    if not is_integer_between(value, 0, n * factorial(n + 1) - 1):
        raise Unfit()
    number, stop = divmod(value, n)
    return (row_at(n + 1, number), stop)


def row_number(row):
    """Return how many rows of as many things are less than row."""
    number = 0
    for place, thing in enumerate(row):
        behind = row[place:]
        lesser = [other for other in behind if other < thing]
        number = number * len(behind) + len(lesser)
    return number


def row_at(many, number):
    """Return the row of so many things to which so many others are less."""
    left = list(range(many))
    row = []
    while left:
        spot, number = divmod(number, factorial(len(left) - 1))
        row.append(left.pop(spot))
    return tuple(row)


def is_odd(row):
    """Return whether an odd number of exchanges of two things makes row ascend."""
    falls = [thing for place, thing in enumerate(row) for other in row[place:] if other < thing]
    return len(falls) % 2 == 1
