"""Journeys: runs one behind another, rounds among them done many times."""

from swapstops.bounds import MAX_LEGS, MAX_TIMES
from swapstops.checks import is_integer_between, is_pair
from swapstops.runs import goes, led, run_error


def journey_error(net, value):
    """Return None for a journey of net, otherwise the first thing that is wrong with value."""
    if not isinstance(value, tuple) or len(value) > MAX_LEGS:
        return "form"
    for spot, leg in enumerate(value):
        if not is_leg(net, leg):
            return ("leg", spot)
    # Only now have all items runs, whose ends can be looked at.
    for spot in range(1, len(value)):
        ahead, run = value[spot - 1][0], value[spot][0]
        if run[0] != ahead[-1]:
            return ("apart", spot)
    return None


def is_leg(net, value):
    """Return whether value is a leg of net."""
    if not is_pair(value):
        return False
    run, times = value
    if run_error(net, run) is not None:
        return False
    most = MAX_TIMES if run[0] == run[-1] else 1
    return is_integer_between(times, 1, most)


def journey_done(standing, journey):
    """Return the standing behind journey, led from standing."""
    for run, times in journey:
        standing = leg_done(standing, run, times)
    return standing


def leg_done(standing, run, times):
    """Return the standing behind run, done so many times from standing."""
    row = standing[0]
    return (led(row, goes(len(row) - 1, run), times), run[-1])


def steps_of(journey):
    """Return how many steps journey is in all."""
    return sum([(len(run) - 1) * times for run, times in journey])
