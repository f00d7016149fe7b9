"""What holds of runs, lots and kinds, told by other means than the program's."""

import itertools
import math

from tests.drawn import all_nets, called


def step_by_step(row, run):
    """The row behind a run, each exchange done by itself on a dict of places."""
    held = dict(enumerate(row))
    register = len(row) - 1
    for at, _ in itertools.pairwise(run):
        cell_thing, register_thing = held[at], held[register]
        held[at] = register_thing
        held[register] = cell_thing
    return tuple(held[place] for place in sorted(held))


def place_behind(n, run, place):
    """Where what lies at one place ahead of a run lies behind it."""
    for at, _ in itertools.pairwise(run):
        if place == at:
            place = n
        elif place == n:
            place = at
    return place


def turns_one_by_one(n, run):
    """How many times a round is done until all lies where it lay."""
    first = tuple(range(n + 1))
    row, many = step_by_step(first, run), 1
    while row != first:
        row, many = step_by_step(row, run), many + 1
    return many


def model_of_done(standing, journey):
    """The standing behind a journey, each run done one by one, but whole turns left out."""
    row, stop = standing
    for run, times in journey:
        for _ in range(times % turns_one_by_one(len(row) - 1, run)):
            row = step_by_step(row, run)
        stop = run[-1]
    return (row, stop)


def is_odd(moves):
    """Whether a rearrangement is one of an odd number of exchanges."""
    return sum(a > b for a, b in itertools.combinations(moves, 2)) % 2 == 1


def comes_to(net):
    """For each stop all stops to which it comes, by going on from each until nothing is new."""
    reach = []
    for stop in range(net[0]):
        found, size = {stop}, 0
        while len(found) > size:
            size = len(found)
            found |= {w for v, w in net[1] if v in found}
        reach.append(found)
    return reach


def model_of_lots(net):
    reach = comes_to(net)
    return tuple(sorted({tuple(sorted(w for w in reach[v] if v in reach[w])) for v in range(net[0])}))


def round_lengths(net, stop, most):
    """How many steps the rounds that begin at a stop have, counted up to so many."""
    at, found = {stop}, []
    for steps in range(1, most + 1):
        at = {w for v, w in net[1] if v in at}
        if stop in at:
            found.append(steps)
    return found


def model_of_beat(net, stop):
    return math.gcd(*round_lengths(net, stop, 3 * net[0] + 3))


BOW = (5, ((0, 1), (0, 3), (1, 2), (2, 0), (3, 4), (4, 0)))
THETA = (5, ((0, 1), (0, 3), (1, 2), (2, 0), (3, 4), (4, 2)))
# Both nets of the kind "five", with their stops called otherwise in all ways: each net once.
FIVES = sorted({called(net, stops) for net in (BOW, THETA) for stops in itertools.permutations(range(5))})


def model_of_kind(net):
    """The kind of a net, None if it is not joined."""
    n, arrows = net
    if len(model_of_lots(net)) > 1:
        return None
    if n == 1:
        return "lone"
    if n > 2 and all(sum(v == stop for v, _ in arrows) == 1 for stop in range(n)):
        return "ring"
    if net in FIVES:
        return "five"
    return "half" if model_of_beat(net, 0) % 2 == 0 else "all"


def standings_behind(net, standing):
    """The standings to which a step leads from one."""
    row, at = standing
    return [(step_by_step(row, (at, w)), w) for v, w in net[1] if v == at]


def model_of_fewest(net, one):
    """Each standing to which one comes, and the fewest steps to it, by going through all of them."""
    found, front, many = {one: 0}, [one], 0
    while front:
        many += 1
        front = sorted({behind for standing in front for behind in standings_behind(net, standing)} - set(found))
        found |= {standing: many for standing in front}
    return found


def all_standings(n):
    """All standings of n stops, ascending."""
    return sorted((row, stop) for row in itertools.permutations(range(n + 1)) for stop in range(n))


def model_of_entries(net, one, other):
    """All entries, by going through all standings to which one comes if each lot is left right."""
    homes = {stop: lot for lot in model_of_lots(net) for stop in lot}
    wrong = {lot for lot in homes.values() if any(one[0][stop] != other[0][stop] for stop in lot)}
    seen, todo, found = {(one, 0)}, [(one, 0)], {(one[1], one[0][-1], 0)}
    while todo:
        standing, many = todo.pop()
        home = homes[standing[1]]
        for row, stop in standings_behind(net, standing):
            count = many
            if homes[stop] != home:
                if any(row[cell] != other[0][cell] for cell in home):
                    continue
                count += home in wrong
                found.add((stop, row[-1], count))
            if ((row, stop), count) not in seen:
                seen.add(((row, stop), count))
                todo.append(((row, stop), count))
    return tuple(sorted(found))


def all_joined(n):
    """All joined nets of n stops: few enough for n up to 4."""
    return [net for net in all_nets(n) if len(model_of_lots(net)) == 1]
