"""Runs: stops that arrows join, and what is led where by the steps between them."""

from math import lcm

from swapstops.bounds import MAX_RUN
from swapstops.nets import is_stop


def run_error(net, value):
    """Return None for a run of net, otherwise the first thing that is wrong with value."""
    n, arrows = net
    if not isinstance(value, tuple) or not 1 <= len(value) <= MAX_RUN:
        return "form"
    for spot, stop in enumerate(value):
        if not is_stop(n, stop):
            return ("stop", spot)
    known = set(arrows)
    for spot in range(1, len(value)):
        if (value[spot - 1], value[spot]) not in known:
            return ("arrow", spot)
    return None


def done(standing, run):
    """Return the standing behind run, led from standing."""
    row = list(standing[0])
    for stop in run[:-1]:
        row[stop], row[-1] = row[-1], row[stop]
    return (tuple(row), run[-1])


def goes(n, run):
    """Return for each place the place at which what lies there ahead of run lies behind it."""
    # Each thing is called by the place where it lies ahead of the run.
    row = done((tuple(range(n + 1)), run[0]), run)[0]
    return tuple([row.index(place) for place in range(n + 1)])


def turns(n, run):
    """Return how often the round run has to be done, at least once, to bring all back."""
    return turns_of(goes(n, run))


def turns_of(moves):
    """Return how often things have to go as moves tells, at least once, to come back all."""
    many = 1
    for place in range(len(moves)):
        many = lcm(many, turns_at(moves, place))
    return many


def turns_at(moves, place):
    """Return how often what lies at place has to go as moves tells to come back there."""
    many, at = 1, moves[place]
    while at != place:
        many, at = many + 1, moves[at]
    return many


def led(row, moves, times):
    """Return what lies where when all that lies as row tells goes as moves tells so many times."""
    # Times may be far too many to be gone one by one.
    for _ in range(times % turns_of(moves)):
        laid = list(row)
        for place, thing in zip(moves, row):
            laid[place] = thing
        row = tuple(laid)
    return row
