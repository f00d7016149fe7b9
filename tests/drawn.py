"""Nets and standings to try, drawn ones too: the same ones each time."""

import itertools
import random

from swapstops.runs import done


def arrows_of(n):
    """All arrows that a net of n stops can have, ascending."""
    return tuple(itertools.permutations(range(n), 2))


def net_of(n, arrows):
    return (n, tuple(sorted(set(arrows))))


def full(n):
    return (n, arrows_of(n))


def ring(n):
    return net_of(n, [(stop, (stop + 1) % n) for stop in range(n)] if n > 1 else [])


def both_ways(n, pairs):
    """The net with an arrow each way between the stops of each pair."""
    return net_of(n, [arrow for v, w in pairs for arrow in ((v, w), (w, v))])


def called(net, stops):
    """The net with each stop called otherwise: the stop v is called stops[v]."""
    return net_of(net[0], [(stops[v], stops[w]) for v, w in net[1]])


def all_nets(n):
    """All nets of n stops: few enough for n up to 4."""
    arrows = arrows_of(n)
    for many in range(len(arrows) + 1):
        for some in itertools.combinations(arrows, many):
            yield (n, some)


def drawn_net(draw, n, many):
    return net_of(n, draw.sample(arrows_of(n), min(many, n * (n - 1))))


def drawn_nets(seed, each=6):
    """Drawn nets of 1 to 12 stops, some with few arrows, some with many."""
    draw = random.Random(seed)
    for n in range(1, 13):
        for _ in range(each):
            yield drawn_net(draw, n, draw.randint(0, 3 * n))


def drawn_joined(seed, each=4):
    """Drawn joined nets of 2 to 12 stops: rings, called otherwise, with some arrows more."""
    draw = random.Random(seed)
    for n in range(2, 13):
        for _ in range(each):
            stops = draw.sample(range(n), n)
            more = draw.sample(arrows_of(n), draw.randint(0, n))
            yield net_of(n, called(ring(n), stops)[1] + tuple(more))


def told_nets():
    """Nets of 1 to 12 stops: without arrows, rings, rows, with all arrows, drawn ones."""
    for n in range(1, 13):
        yield (n, ())
        yield ring(n)
        yield (n, ring(n)[1][1:])
        yield both_ways(n, [(stop, stop + 1) for stop in range(n - 1)])
        yield full(n)
    yield from drawn_nets("told")
    yield from drawn_joined("told")


def drawn_row(draw, n):
    return tuple(draw.sample(range(n + 1), n + 1))


def drawn_standing(draw, n):
    return (drawn_row(draw, n), draw.randrange(n))


def drawn_run(draw, net, stop, steps):
    """A drawn run of so many steps from stop, of fewer where no arrow leads on."""
    run = [stop]
    for _ in range(steps):
        onward = [w for v, w in net[1] if v == run[-1]]
        if not onward:
            break
        run.append(draw.choice(onward))
    return tuple(run)


def all_runs(net, steps):
    """All runs of net of at most so many steps."""
    runs = [(stop,) for stop in range(net[0])]
    for _ in range(steps + 1):
        yield from runs
        runs = [run + (w,) for run in runs for v, w in net[1] if v == run[-1]]


def loose_nets():
    """Nets of 2 to 12 stops that are not joined."""
    for n in range(2, 13):
        yield (n, ())
        yield (n, ((0, 1),))
        yield (n, ring(n)[1][1:])
        yield (n, tuple((v, w) for v, w in arrows_of(n) if v < w))
        yield (n, tuple((v, w) for v, w in arrows_of(n) if w != n - 1))


def parted(n, shades):
    """The net with all arrows between stops of unlike colours."""
    return net_of(n, [(v, w) for v, w in arrows_of(n) if shades[v] != shades[w]])


def drawn_halves(seed, each=3):
    """Drawn joined nets of 3 to 12 stops, no rings, each arrow of which leads from one colour to the other one."""
    draw = random.Random(seed)
    for n in range(3, 13):
        for spot in range(each):
            shades = [0, 1] + [draw.randint(0, 1) for _ in range(n - 2)]
            pairs = [(v, draw.choice([w for w in range(v) if shades[w] != shades[v]])) for v in range(2, n)]
            arrows = both_ways(n, [(0, 1)] + pairs)[1]
            if spot == 0 and n > 3:
                shades = [stop % 2 for stop in range(n)]
                arrows = ring(n - n % 2)[1] + ((n - 2, n - 1), (n - 1, n - 2))
            more = [arrow for arrow in parted(n, shades)[1] if draw.randrange(5) == 0]
            yield called(net_of(n, arrows + tuple(more)), draw.sample(range(n), n))


def exchanged(standing, first, second):
    """The standing with the things at two places exchanged."""
    row = list(standing[0])
    row[first], row[second] = row[second], row[first]
    return (tuple(row), standing[1])


def drawn_to(draw, net, one, steps=40):
    """A standing to which one comes by a drawn run."""
    return done(one, drawn_run(draw, net, one[1], steps))
