"""Journeys that lead one standing to another one in joined nets."""

from swapstops.coming import bar
from swapstops.errors import Barred
from swapstops.journeys import journey_done
from swapstops.kinds import kind_of
from swapstops.lots import leads
from swapstops.runs import goes, led, turns, turns_at, turns_of
from swapstops.standings import is_odd


def journey_to(net, one, other):
    """Return a journey from one to other; Apart() if net is not joined, Barred(paper) if one does not come there."""
    paper = bar(net, one, other)
    if paper is not None:
        raise Barred(paper)
    if kind_of(net) in ("half", "all"):
        return journey_by_threes(net, one, other)
    # Of the other kinds so few standings come that a run is found by going through them.
    goals = goals_of(one[0], other[0])
    return journey_of(run_of_places(net, one[1], other[1], places_of(net), lambda held: held == goals))


def journey_by_threes(net, one, other):
    """Return a journey from one to other, to which it comes by net, a half or one that lets all come."""
    stop = other[1]
    # Each step is one exchange: what is left to be done behind this run is even.
    parity = 1 if is_odd(one[0]) != is_odd(other[0]) else 0
    journey = journey_of(run_of_parity(net, one[1], stop, parity))
    standing = journey_done(one, journey)
    if standing == other:
        return journey
    tool = run_of_places(net, stop, stop, places_of(net), lambda moves: len(thirds(moves)) == 3)
    while standing != other:
        legs = legs_by_tool(net, tool, three_to_lead(goals_of(standing[0], other[0])))
        standing = journey_done(standing, legs)
        journey += legs
    return journey


def legs_by_tool(net, tool, places):
    """Return legs that lead what lies at three places round, from each one to the next one, and nothing else.

    tool is a round by which, done often enough, just three places are led round.
    """
    n, stop, moves = net[0], tool[0], goes(net[0], tool)
    fit = thirds(moves)
    way = run_of_places(net, stop, stop, places, lambda held: sorted(held) == fit)
    ends = goes(n, way)
    times = turns_of(moves) // 3
    # Done so often the tool leads round in one way, done twice as often in the other one.
    if led(places_of(net), moves, times)[ends[places[1]]] != ends[places[0]]:
        times = 2 * times
    if len(way) == 1:
        return ((tool, times),)
    return ((way, 1), (tool, times), (way, turns(n, way) - 1))


def three_to_lead(goals):
    """Return three places such that all is nearer to its goal if what lies there is led round, each to the next one.

    goals tells for each place the goal of what lies there: an even order, by which something has to be led.
    """
    loose = [place for place in range(len(goals)) if goals[place] != place]
    first = loose[0]
    second = goals[first]
    third = goals[second]
    if third == first:
        # Cycles of evenly many places are evenly many, as the order is even. So there is
        # another one: with both in one cycle all is led by the fewest threes.
        even = [place for place in loose if turns_at(goals, place) % 2 == 0]
        third = [place for place in even if place not in (first, second)][0]
    return (first, second, third)


def thirds(moves):
    """Return the places, ascending, to which things come back only behind multiples of three times.

    If they are three, a third of all turns leads them round, and leaves all else.
    """
    return [place for place in range(len(moves)) if turns_at(moves, place) % 3 == 0]


def goals_of(row, wanted):
    """Return for each place the one at which wanted has what lies there in row."""
    return tuple([wanted.index(thing) for thing in row])


def places_of(net):
    """Return all places of net."""
    return tuple(range(net[0] + 1))


def journey_of(run):
    """Return the journey that is run alone."""
    return ((run, 1),) if len(run) > 1 else ()


def run_of_parity(net, stop, last, parity):
    """Return a run of fewest steps from stop to last, of evenly many for the parity 0, of oddly many for 1."""
    return run_until(net, (stop, 0), last, turned_parity, lambda held: held == parity)


def turned_parity(_, parity):
    """Return the parity behind a step, whatever stop is left."""
    return 1 - parity


def run_of_places(net, stop, last, places, fits):
    """Return a run of fewest steps from stop to last that leads what lies at places to places which fit."""
    n = net[0]
    return run_until(net, (stop, places), last, lambda at, held: moved(n, at, held), fits)


def moved(n, at, places):
    """Return where what lies at places lies behind a step from the stop at."""
    trade = {at: n, n: at}
    return tuple([trade.get(place, place) for place in places])


def run_until(net, first, last, carry, fits):
    """Return a run of fewest steps to the stop last, behind which what is held fits.

    first is a pair: the stop from which the run leads, and what is held there. carry tells what is
    held behind a step, of the stop that is left and of what was held there.
    """
    ahead = leads(net)
    came = {first: None}
    queue = [first]
    spot = 0
    while queue[spot][0] != last or not fits(queue[spot][1]):
        at, held = queue[spot]
        laid = carry(at, held)
        for w in ahead[at]:
            if (w, laid) not in came:
                came[(w, laid)] = queue[spot]
                queue.append((w, laid))
        spot += 1
    return run_back(came, queue[spot])


def run_back(came, state):
    """Return the run that ends in state, of which came tells whence each one came, and None of the first one."""
    run = []
    while state is not None:
        run.append(state[0])
        state = came[state]
    return tuple(run[::-1])
