"""The examples of the document, in its order and word for word."""

EXAMPLES = """
>>> from swapstops.nets import net_error
>>> ring, lane, two = (3, ((0, 1), (1, 2), (2, 0))), (4, ((0, 1), (1, 2))), (2, ((0, 1), (1, 0)))
>>> [net_error(value) for value in (ring, lane, two, (1, ()), (12, ()), (0, ()), (13, ()), (True, ()), (3, [(0, 1)]), [3, ()])]
[None, None, None, None, None, 'form', 'form', 'form', 'form', 'form']
>>> [net_error((3, arrows)) for arrows in (((0, 1), (1, 1)), ((0, 3),), ((0, 1), [1, 2]), ((0, 1, 2),), ((0, True),), ((-1, 0),))]
[('arrow', 1), ('arrow', 0), ('arrow', 1), ('arrow', 0), ('arrow', 0), ('arrow', 0)]
>>> [net_error((3, arrows)) for arrows in (((1, 2), (0, 1)), ((0, 1), (0, 1)), ((0, 2), (0, 1), (2, 2)))]
[('order', 1), ('order', 1), ('arrow', 2)]

>>> from swapstops.nettexts import net_text, read_net
>>> net_text(ring), net_text((1, ())), read_net("4: 0>1 1>2") == lane, read_net("12: 10>11")
('3: 0>1 1>2 2>0', '1:', True, (12, ((10, 11),)))
>>> read_net("3: 1>2 0>1")
raises BadText()
>>> read_net("3:0>1")
raises BadText()
>>> read_net("2: 0>01")
raises BadText()
>>> read_net("2: ")
raises BadText()

>>> from swapstops.standings import standing_at, standing_error, standing_number
>>> [standing_error(2, value) for value in (((0, 1, 2), 0), ((2, 0, 1), 1), ((0, 1), 0), ([0, 1, 2], 0), (0, 1, 2), ((0, 1, 2), 0, 1))]
[None, None, 'form', 'form', 'form', 'form']
>>> [standing_error(2, value) for value in (((0, 0, 3), 9), ((0, True, 2), 0), ((1, 2, 1), 9), ((2, 2, 2), 0), ((0, 1, 2), 2), ((0, 1, 2), False))]
[('thing', 2), ('thing', 1), ('twice', 2), ('twice', 1), 'stop', 'stop']
>>> [standing_number(2, standing) for standing in (((0, 1, 2), 0), ((0, 1, 2), 1), ((0, 2, 1), 0), ((2, 1, 0), 1))]
[0, 1, 2, 11]
>>> standing_at(2, 5), standing_at(1, 1), standing_at(3, 71), standing_number(12, (tuple(range(13)), 7))
(((1, 0, 2), 1), ((1, 0), 0), ((3, 2, 1, 0), 2), 7)
>>> standing_at(2, 12)
raises Unfit()
>>> standing_at(2, True)
raises Unfit()

>>> from swapstops.runs import done, goes, run_error, turns
>>> ring, lane, bow = (3, ((0, 1), (1, 2), (2, 0))), (4, ((0, 1), (1, 2))), (3, ((0, 1), (0, 2), (1, 0), (2, 0)))
>>> [run_error(ring, value) for value in ((0, 1, 2, 0), (2,), (0, 1, 2) * 333 + (0,), (0, 1, 2) * 334, (), [0, 1], 7)]
[None, None, None, 'form', 'form', 'form', 'form']
>>> [run_error(ring, value) for value in ((0, 2, 1), (0, 1, 3), (0, 2, 3), (True, 1), (1, 2, 0, 0), ((0, 1), 2))]
[('arrow', 1), ('stop', 2), ('stop', 2), ('stop', 0), ('arrow', 3), ('stop', 0)]
>>> done(((0, 1, 2, 3), 0), (0, 1)), done(((0, 1, 2, 3), 0), (0, 1, 2)), done(((0, 1, 2, 3), 0), (0, 1, 2, 0)), done(((2, 0, 1, 3), 1), (1,))
(((3, 1, 2, 0), 1), ((3, 0, 2, 1), 2), ((3, 0, 1, 2), 0), ((2, 0, 1, 3), 1))
>>> goes(3, (0, 1, 2, 0)), goes(3, (0, 1)), goes(3, (2,)), goes(3, (0, 1, 0, 2, 0)), goes(4, (0, 1, 2))
((1, 2, 3, 0), (3, 1, 2, 0), (0, 1, 2, 3), (1, 0, 3, 2), (1, 4, 2, 3, 0))
>>> turns(3, (0, 1, 2, 0)), turns(3, (0, 1, 0, 2, 0)), turns(3, (1,)), turns(3, (0, 1, 0)), turns(3, (0, 1, 2, 0, 1, 2, 0))
(4, 2, 1, 3, 2)

>>> from swapstops.journeys import journey_done, journey_error, steps_of
>>> tour = (((0, 1, 2, 0), 10 ** 30), ((0, 1), 1), ((1,), 5))
>>> [journey_error(ring, value) for value in (tour, (), list(tour), (((0, 1), 2),), (((0, 1), 0),), (((0, 1), True),), (((1,), 10 ** 30 + 1),), ((0, 1),))]
[None, None, 'form', ('leg', 0), ('leg', 0), ('leg', 0), ('leg', 0), ('leg', 0)]
>>> [journey_error(ring, value) for value in ((((0, 1), 1), ((2, 0), 1)), (((0, 1), 1), ((0, 1), 1), ((0, 2), 1)), (((0, 1), 1), [(1, 2), 1]), (((2,), 1),) * 501)]
[('apart', 1), ('leg', 2), ('leg', 1), 'form']
>>> journey_done(((0, 1, 2, 3), 0), tour), journey_done(((0, 1, 2, 3), 0), tour[:1]), journey_done(((3, 0, 1, 2), 2), ())
(((3, 1, 2, 0), 1), ((0, 1, 2, 3), 0), ((3, 0, 1, 2), 2))
>>> steps_of(tour) == 3 * 10 ** 30 + 1, steps_of(()), steps_of((((0, 1, 2), 1), ((2, 0), 1))), steps_of((((1,), 10 ** 30),))
(True, 0, 3, 0)

>>> from swapstops.lots import beat, colours, lots, onward
>>> fork, single = (4, ((0, 1), (1, 0), (1, 2), (2, 3), (3, 2))), (1, ())
>>> lots(fork), onward(fork), lots(single), onward(single), lots((3, ((0, 1),))), onward((3, ((0, 1),)))
(((0, 1), (2, 3)), ((0, 1),), ((0,),), (), ((0,), (1,), (2,)), ((0, 1),))
>>> lots((4, ((0, 2), (1, 3), (2, 0), (3, 1)))), lots((3, ((0, 1), (1, 2), (2, 0)))), onward((3, ((0, 2), (1, 0), (1, 2))))
(((0, 2), (1, 3)), ((0, 1, 2),), ((0, 2), (1, 0), (1, 2)))

>>> tri, square = (3, ((0, 1), (1, 2), (2, 0))), (4, ((0, 1), (1, 2), (2, 3), (3, 0)))
>>> beat(tri, 1), beat(square, 0), beat(fork, 0), beat(fork, 3), beat(single, 0), beat((4, ((0, 1), (1, 2), (2, 0), (2, 3), (3, 0))), 2)
(3, 4, 2, 2, 0, 1)
>>> colours(square), colours(single), colours((3, ((0, 1), (1, 0), (1, 2), (2, 1))))
((0, 1, 0, 1), (0,), (0, 1, 0))
>>> colours(fork)
raises Apart()
>>> colours(tri)
raises Unfit()

>>> from swapstops.kinds import kind_of
>>> tri, bow, theta = (3, ((0, 1), (1, 2), (2, 0))), (5, ((0, 1), (0, 3), (1, 2), (2, 0), (3, 4), (4, 0))), (5, ((0, 1), (0, 3), (1, 2), (2, 0), (3, 4), (4, 2)))
>>> kind_of((1, ())), kind_of((2, ((0, 1), (1, 0)))), kind_of(tri), kind_of(bow), kind_of(theta)
('lone', 'half', 'ring', 'five', 'five')
>>> kind_of((3, ((0, 1), (1, 0), (1, 2), (2, 1)))), kind_of((3, ((0, 1), (1, 2), (2, 0), (2, 1)))), kind_of((5, ((0, 1), (0, 3), (1, 2), (2, 0), (3, 4), (4, 0), (4, 3))))
('half', 'all', 'all')
>>> kind_of((2, ((0, 1),)))
raises Apart()

>>> from swapstops.names import names, names_hold, ratio
>>> right = ((0, 1, 2, 4, 3, 5), (5, 1, 2, 4, 3, 0), (5, 0, 2, 4, 3, 1), (5, 1, 2, 4, 3, 0), (5, 1, 2, 0, 3, 4))
>>> names_hold(bow, right), names_hold(bow, ((1, 2, 3, 0, 4, 5),) + right[1:]), names_hold(bow, ((1, 0, 2, 4, 3, 5),) + right[1:]), names_hold(bow, list(right)), names_hold(theta, right), names_hold(bow, names(bow))
(True, True, False, False, False, True)
>>> first = ((0, 1, 2, 3, 4, 5), 0)
>>> ratio(bow, first, (0, 1, 2, 3)), ratio(bow, first, (0, 1, 2, 5)), ratio(bow, first, (1, 0, 2, 5)), ratio(bow, ((5, 1, 2, 3, 4, 0), 1), (0, 1, 2, 5)), ratio(bow, ((1, 0, 2, 3, 4, 5), 0), (0, 1, 2, 5))
(4, 2, 3, 2, 3)
>>> names(tri)
raises Unfit()

>>> from swapstops.coming import bar, bar_holds, comes
>>> ring, line, full = (3, ((0, 1), (1, 2), (2, 0))), (3, ((0, 1), (1, 0), (1, 2), (2, 1))), (3, ((0, 1), (1, 0), (1, 2), (2, 0)))
>>> first = ((0, 1, 2, 3), 0)
>>> [comes(net, first, ((3, 1, 2, 0), 1)) for net in (ring, line, full)], [comes(net, first, ((0, 1, 2, 3), 1)) for net in (ring, line, full)]
([True, True, True], [False, False, True])
>>> [comes(net, first, ((1, 0, 2, 3), 1)) for net in (ring, line, full)], comes(ring, first, ((3, 0, 1, 2), 0)), bar(line, first, first), bar(line, first, ((1, 0, 2, 3), 0))
([False, True, True], True, None, ('sign',))
>>> [bar_holds(ring, first, ((0, 1, 2, 3), 1), value) for value in (("next", 3), ("next", 0), ("next", 1), ("next", True), ("sign",), ["next", 3])]
[True, True, False, False, False, False]
>>> lone = (1, ())
>>> comes(lone, ((0, 1), 0), ((0, 1), 0)), bar(lone, ((0, 1), 0), ((1, 0), 0))
(True, ('still',))
>>> five = (5, ((0, 1), (0, 3), (1, 2), (2, 0), (3, 4), (4, 0)))
>>> begin, turned = ((0, 1, 2, 3, 4, 5), 0), ((1, 0, 2, 3, 4, 5), 0)
>>> comes(five, begin, ((5, 1, 2, 3, 4, 0), 1)), comes(five, begin, turned), bar_holds(five, begin, turned, ("ratio", (0, 1, 2, 4))), bar_holds(five, begin, turned, ("ratio", (0, 1, 2, 3)))
(True, False, True, False)
>>> comes((2, ((0, 1),)), ((0, 1, 2), 0), ((0, 1, 2), 0))
raises Apart()

>>> from swapstops.counting import come_at, come_count, come_number
>>> ring, line, full = (3, ((0, 1), (1, 2), (2, 0))), (3, ((0, 1), (1, 0), (1, 2), (2, 1))), (3, ((0, 1), (1, 0), (1, 2), (2, 0)))
>>> five, lone = (5, ((0, 1), (0, 3), (1, 2), (2, 0), (3, 4), (4, 0))), (1, ())
>>> [come_count(net) for net in (lone, ring, line, full, five)]
[1, 12, 36, 72, 600]
>>> first = ((0, 1, 2, 3), 0)
>>> [come_number(full, first, other) for other in (first, ((0, 1, 2, 3), 2), ((0, 1, 3, 2), 0), ((3, 2, 1, 0), 2))], come_at(full, first, 71)
([0, 2, 3, 71], ((3, 2, 1, 0), 2))
>>> [come_at(line, first, value) for value in (0, 1, 2, 3, 35)], come_number(line, first, ((0, 2, 3, 1), 2))
([((0, 1, 2, 3), 0), ((0, 1, 2, 3), 2), ((0, 1, 3, 2), 1), ((0, 2, 1, 3), 1), ((3, 2, 1, 0), 2)], 5)
>>> [come_at(ring, first, value) for value in (0, 1, 2, 11)], come_at(five, ((0, 1, 2, 3, 4, 5), 0), 0), come_at(lone, ((1, 0), 0), 0)
([((0, 1, 2, 3), 0), ((0, 1, 3, 2), 2), ((0, 2, 3, 1), 1), ((3, 1, 2, 0), 1)], ((0, 1, 2, 3, 4, 5), 0), ((1, 0), 0))
>>> come_number(line, first, ((0, 1, 3, 2), 0))
raises Unfit()
>>> come_at(ring, first, 12)
raises Unfit()
>>> come_at(ring, first, True)
raises Unfit()

>>> from swapstops.journeys import journey_done, journey_error
>>> from swapstops.leading import journey_to
>>> two, ring, both = (2, ((0, 1), (1, 0))), (3, ((0, 1), (1, 2), (2, 0))), (3, ((0, 1), (1, 0), (1, 2), (2, 0)))
>>> one, other = ((0, 1, 2, 3), 0), ((3, 0, 1, 2), 0)
>>> [journey_done(one, value) for value in ((((0, 1, 2, 0), 1),), (((0, 1, 2, 0), 2),), (((0, 1, 2, 0), 1), ((0, 1), 1)))]
[((3, 0, 1, 2), 0), ((2, 3, 0, 1), 0), ((2, 0, 1, 3), 1)]
>>> journey_error(both, journey_to(both, one, ((1, 0, 2, 3), 2))), journey_done(one, journey_to(both, one, ((1, 0, 2, 3), 2))), journey_done(one, journey_to(ring, one, other)) == other
(None, ((1, 0, 2, 3), 2), True)
>>> journey_to(two, ((0, 1, 2), 0), ((1, 0, 2), 0))
raises Barred(('sign',))
>>> journey_to((1, ()), ((0, 1), 0), ((1, 0), 0))
raises Barred(('still',))
>>> journey_to((2, ((0, 1),)), ((0, 1, 2), 0), ((0, 1, 2), 0))
raises Apart()

>>> from swapstops.waves import farthest, fewest_steps
>>> two, ring, both = (2, ((0, 1), (1, 0))), (3, ((0, 1), (1, 2), (2, 0))), (3, ((0, 1), (1, 0), (1, 2), (2, 0)))
>>> one = ((0, 1, 2, 3), 0)
>>> [fewest_steps(ring, one, other) for other in (one, ((3, 0, 1, 2), 0), ((1, 0, 2, 3), 0), ((0, 1, 2, 3), 1))]
[0, 3, None, None]
>>> [fewest_steps(both, one, other) for other in (((3, 1, 2, 0), 1), ((3, 0, 1, 2), 0), ((0, 1, 2, 3), 2), ((0, 1, 3, 2), 0), ((1, 0, 2, 3), 0))]
[1, 3, 6, 7, 11]
>>> farthest(ring, one), farthest(both, one), farthest(two, ((0, 1, 2), 0)), farthest((1, ()), ((1, 0), 0)), farthest((2, ((0, 1),)), ((0, 1, 2), 0))
((11, ((0, 1, 3, 2), 2)), (15, ((1, 0, 2, 3), 2)), (5, ((0, 2, 1), 1)), (0, ((1, 0), 0)), (1, ((2, 1, 0), 1)))

>>> from swapstops.ways import can_come, entries, journey_through
>>> gate, first = (3, ((0, 1), (1, 0), (1, 2))), ((0, 1, 2, 3), 0)
>>> entries(gate, first, ((3, 0, 2, 1), 2)), entries(gate, first, ((0, 3, 2, 1), 2)), entries(gate, first, ((0, 1, 2, 3), 2))
(((0, 3, 0), (2, 1, 1)), ((0, 3, 0),), ((0, 3, 0), (2, 3, 0)))
>>> fork, begin = (4, ((0, 1), (0, 2), (1, 3), (2, 3))), ((0, 1, 2, 3, 4), 0)
>>> entries(fork, begin, ((4, 0, 2, 3, 1), 3)), entries(fork, begin, ((4, 0, 1, 3, 2), 3))
(((0, 4, 0), (1, 0, 1), (2, 0, 1), (3, 1, 2)), ((0, 4, 0), (1, 0, 1), (2, 0, 1), (3, 1, 2)))

>>> [can_come(gate, first, other) for other in (((3, 0, 2, 1), 2), ((0, 3, 2, 1), 2), ((0, 1, 2, 3), 2), ((0, 1, 3, 2), 2), ((3, 1, 2, 0), 1), first)]
[True, False, True, False, True, True]
>>> [can_come(fork, begin, other) for other in (((4, 0, 2, 3, 1), 3), ((4, 1, 0, 3, 2), 3), ((4, 0, 1, 3, 2), 3), ((4, 0, 2, 3, 1), 1))]
[True, True, False, False]

>>> from swapstops.journeys import journey_done, journey_error
>>> [journey_done(first, journey_through(gate, first, other)) == other for other in (((3, 0, 2, 1), 2), ((0, 1, 2, 3), 2), ((3, 1, 2, 0), 1), first)]
[True, True, True, True]
>>> journey_error(fork, journey_through(fork, begin, ((4, 1, 0, 3, 2), 3))) is None
True
>>> journey_through(gate, first, ((0, 3, 2, 1), 2))
raises NoWay(((0, 3, 0),))
>>> journey_through(gate, first, ((0, 1, 3, 2), 2))
raises NoWay(((0, 3, 0), (2, 3, 0)))

>>> from swapstops.coming import comes
>>> from swapstops.likeness import alike, parting
>>> ring, back = (3, ((0, 1), (1, 2), (2, 0))), (3, ((0, 2), (1, 0), (2, 1)))
>>> free, full, half = (3, ((0, 1), (1, 0), (1, 2), (2, 0))), (3, ((0, 1), (0, 2), (1, 0), (1, 2), (2, 0), (2, 1))), (3, ((0, 1), (1, 0), (1, 2), (2, 1)))
>>> alike(free, full), alike(free, half), alike(free, ring), alike(ring, back), alike(ring, ring), parting(full, free)
(True, False, False, False, True, None)
>>> row, wheel, star = (4, ((0, 1), (1, 0), (1, 2), (2, 1), (2, 3), (3, 2))), (4, ((0, 1), (1, 0), (1, 2), (2, 3), (3, 0))), (4, ((0, 1), (0, 2), (0, 3), (1, 0), (2, 0), (3, 0)))
>>> alike(row, wheel), alike(row, star)
(True, False)
>>> first, second = parting(half, free)
>>> comes(half, first, second), comes(free, first, second)
(False, True)
>>> start, behind = ((0, 1, 2, 3), 0), ((3, 1, 2, 0), 1)
>>> comes(ring, start, behind), comes(back, start, behind)
(True, False)
>>> alike(ring, row)
raises Unfit()
>>> alike(ring, (4, ()))
raises Apart()

>>> from swapstops.arrows import freeing, spare
>>> square, four = (4, ((0, 1), (0, 3), (1, 0), (1, 2), (2, 1), (2, 3), (3, 0), (3, 2))), (4, ((0, 1), (1, 2), (2, 3), (3, 0)))
>>> freeing(half) in ((0, 2), (2, 0)), freeing(four) in ((0, 2), (1, 3), (2, 0), (3, 1)), freeing(ring) in back[1]
(True, True, True)
>>> spare(full) == full[1], spare(free), spare(square) == square[1], spare(wheel), spare(ring), spare((1, ()))
(True, (), True, (), (), ())
>>> freeing(full)
raises Unfit()
>>> freeing((2, ((0, 1), (1, 0))))
raises Unfit()

>>> from swapstops.desks import Desk, desk_behind
>>> ring, start = (3, ((0, 1), (1, 2), (2, 0))), ((0, 1, 2, 3), 0)
>>> d = Desk(ring, start)
>>> [d.step(1), d.standing, d.put((1, 0)), d.net, d.step(0), d.standing]
[1, ((3, 1, 2, 0), 1), 2, (3, ((0, 1), (1, 0), (1, 2), (2, 0))), 3, ((3, 0, 2, 1), 0)]
>>> [d.can(start), d.drop((1, 0)), d.can(start), d.undo(), d.can(start), d.at(1), d.version]
[True, 4, False, 3, True, ((3, ((0, 1), (1, 2), (2, 0))), ((3, 1, 2, 0), 1)), 3]
>>> [desk_behind(ring, start, d.log) == d, d.copy() == d, d == Desk(ring, start), d.log[:2], d.redo(), d.net == ring]
[True, True, False, (('step', 1), ('put', (1, 0))), 4, True]
>>> d.step(2)
raises Unfit()
>>> d.put((0, 1))
raises Unfit()
>>> d.at(True)
raises NoVersion(True)
>>> Desk((3, ((1, 0), (0, 1))), start)
raises BadNet(('order', 1))
>>> Desk(ring, ((0, 1, 1, 3), 0))
raises BadStanding(('twice', 2))
>>> desk_behind(ring, start, (("step", 1), ("step", 0)))
raises BadLog(1)
"""


def told_examples():
    """All examples: pairs of a line to run and the line that tells what it gives, perhaps None."""
    found = []
    for line in EXAMPLES.split("\n"):
        if line.startswith(">>> "):
            found.append((line[4:], None))
        elif line:
            found[-1] = (found[-1][0], line)
    return found
