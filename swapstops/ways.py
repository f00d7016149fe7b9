"""Ways through several lots, each of which is left for good.

Lots are gone through one behind another, never one twice: so what a lot holds
when control comes into it is what one has there, and if it is left right it
holds what other has there.
"""

from swapstops.coming import comes
from swapstops.errors import NoWay
from swapstops.leading import journey_to
from swapstops.lots import lot_net, lot_of, lots


def entries(net, one, other):
    """Return the ascending tuple of all entries: a stop, the register's thing, how many changed lots are behind."""
    return tuple(sorted(ways_in(net, one, other)))


def can_come(net, one, other):
    """Return whether one comes to other."""
    return last_entry(net, one, other, ways_in(net, one, other)) is not None


def journey_through(net, one, other):
    """Return a journey of net that leads one to other; NoWay(entries) if there is none."""
    came = ways_in(net, one, other)
    entry = last_entry(net, one, other, came)
    if entry is None:
        raise NoWay(tuple(sorted(came)))
    lot = lot_of(net, other[1])
    journey = journey_within(net, lot, begin_of(lot, one, entry), end_of(lot, other))
    while came[entry] is not None:
        beyond = entry[0]
        entry, gate = came[entry]
        lot = lot_of(net, gate)
        begin, end = begin_of(lot, one, entry), end_at(lot, one, other, entry, gate)
        journey = journey_within(net, lot, begin, end) + (((gate, beyond), 1),) + journey
    return journey


def ways_in(net, one, other):
    """Return a dict that has for each entry the one ahead of it and the stop that is left to come to it.

    For the entry of no step it has None.
    """
    first = (one[1], one[0][-1], 0)
    came = {first: None}
    todo = [first]
    known = {}
    while todo:
        entry = todo.pop()
        stop, thing, behind = entry
        lot = lot_of(net, stop)
        # How a lot can be left does not hang on how many changed ones are behind.
        if (stop, thing) not in known:
            known[(stop, thing)] = ways_out(net, lot, one, other, entry)
        more = behind + 1 if is_changed(lot, one, other) else behind
        for gate, beyond, left in known[(stop, thing)]:
            if (beyond, left, more) not in came:
                came[(beyond, left, more)] = (entry, gate)
                todo.append((beyond, left, more))
    return came


def ways_out(net, lot, one, other, entry):
    """Return how lot can be left right behind entry: the stop, the one beyond, the thing that goes on."""
    left = left_over(lot, one, other, entry)
    if left is None:
        return []
    begin = begin_of(lot, one, entry)
    found = []
    for gate in lot:
        beyond = [w for v, w in net[1] if v == gate and w not in lot]
        if beyond and comes(lot_net(net, lot), begin, end_at(lot, one, other, entry, gate)):
            found += [(gate, w, left) for w in beyond]
    return found


def last_entry(net, one, other, came):
    """Return the least entry of came from which other comes within its lot, None if there is none."""
    lot = lot_of(net, other[1])
    changed = [each for each in lots(net) if each != lot and is_changed(each, one, other)]
    for entry in sorted(came):
        if entry[0] in lot and entry[2] == len(changed) and left_over(lot, one, other, entry) == other[0][-1]:
            if comes(lot_net(net, lot), begin_of(lot, one, entry), end_of(lot, other)):
                return entry
    return None


def is_changed(lot, one, other):
    """Return whether other has another thing in a cell of lot than one has."""
    return held(lot, one) != held(lot, other)


def held(lot, standing):
    """Return what lies in the cells of lot."""
    return [standing[0][stop] for stop in lot]


def left_over(lot, one, other, entry):
    """Return the thing that goes on if lot, come into by entry, is left right; None if things are missing for that."""
    wanted = held(lot, other)
    rest = [thing for thing in [*held(lot, one), entry[1]] if thing not in wanted]
    return rest[0] if len(rest) == 1 else None


def begin_of(lot, one, entry):
    """Return the standing of lot by itself when control has come into it by entry."""
    return by_itself(lot, [*held(lot, one), entry[1]], entry[0])


def end_of(lot, other):
    """Return the standing of lot by itself that other has."""
    return by_itself(lot, [*held(lot, other), other[0][-1]], other[1])


def end_at(lot, one, other, entry, gate):
    """Return the standing of lot by itself from which a step from its stop gate leaves it right."""
    left = left_over(lot, one, other, entry)
    cells = [left if stop == gate else other[0][stop] for stop in lot]
    return by_itself(lot, [*cells, other[0][gate]], gate)


def by_itself(lot, things, stop):
    """Return the standing of the net of lot: things called by their order, stop by its spot."""
    called = sorted(things)
    return (tuple([called.index(thing) for thing in things]), lot.index(stop))


def journey_within(net, lot, begin, end):
    """Return a journey of net within lot which leads it from begin to end."""
    legs = journey_to(lot_net(net, lot), begin, end)
    return tuple([(tuple([lot[spot] for spot in run]), times) for run, times in legs])
