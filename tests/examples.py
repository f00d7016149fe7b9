"""The examples of the document, in its order and word for word."""

EXAMPLES = """
>>> from swapstops.nets import net_error
>>> ring, lane, two = (3, ((0, 1), (1, 2), (2, 0))), (4, ((0, 1), (1, 2))), (2, ((0, 1), (1, 0)))
>>> [net_error(value) for value in (ring, lane, two, (1, ()), (12, ()), (0, ()), (13, ()), (True, ()), (3, [(0, 1)]), [3, ()])]
[None, None, None, None, None, 'form', 'form', 'form', 'form', 'form']
>>> [net_error((3, arrows)) for arrows in (((0, 1), (1, 1)), ((0, 3),), ((0, 1), [1, 2]), ((0, 1, 2),), ((0, True),), ((-1, 0),))]
[('arrow', 1), ('arrow', 0), ('arrow', 1), ('arrow', 0), ('arrow', 0), ('arrow', 0)]
>>> [net_error((3, arrows)) for arrows in (((1, 2), (0, 1)), ((0, 1), (0, 1)), ((0, 2), (0, 1), (2, 2)))]
[('order', 1), ('order', 1), ('arrow', 2)]

>>> from swapstops.nettexts import net_text, read_net
>>> net_text(ring), net_text((1, ())), read_net("4: 0>1 1>2") == lane, read_net("12: 10>11")
('3: 0>1 1>2 2>0', '1:', True, (12, ((10, 11),)))
>>> read_net("3: 1>2 0>1")
raises BadText()
>>> read_net("3:0>1")
raises BadText()
>>> read_net("2: 0>01")
raises BadText()
>>> read_net("2: ")
raises BadText()

>>> from swapstops.standings import standing_at, standing_error, standing_number
>>> [standing_error(2, value) for value in (((0, 1, 2), 0), ((2, 0, 1), 1), ((0, 1), 0), ([0, 1, 2], 0), (0, 1, 2), ((0, 1, 2), 0, 1))]
[None, None, 'form', 'form', 'form', 'form']
>>> [standing_error(2, value) for value in (((0, 0, 3), 9), ((0, True, 2), 0), ((1, 2, 1), 9), ((2, 2, 2), 0), ((0, 1, 2), 2), ((0, 1, 2), False))]
[('thing', 2), ('thing', 1), ('twice', 2), ('twice', 1), 'stop', 'stop']
>>> [standing_number(2, standing) for standing in (((0, 1, 2), 0), ((0, 1, 2), 1), ((0, 2, 1), 0), ((2, 1, 0), 1))]
[0, 1, 2, 11]
>>> standing_at(2, 5), standing_at(1, 1), standing_at(3, 71), standing_number(12, (tuple(range(13)), 7))
(((1, 0, 2), 1), ((1, 0), 0), ((3, 2, 1, 0), 2), 7)
>>> standing_at(2, 12)
raises Unfit()
>>> standing_at(2, True)
raises Unfit()

>>> from swapstops.runs import done, goes, run_error, turns
>>> ring, lane, bow = (3, ((0, 1), (1, 2), (2, 0))), (4, ((0, 1), (1, 2))), (3, ((0, 1), (0, 2), (1, 0), (2, 0)))
>>> [run_error(ring, value) for value in ((0, 1, 2, 0), (2,), (0, 1, 2) * 333 + (0,), (0, 1, 2) * 334, (), [0, 1], 7)]
[None, None, None, 'form', 'form', 'form', 'form']
>>> [run_error(ring, value) for value in ((0, 2, 1), (0, 1, 3), (0, 2, 3), (True, 1), (1, 2, 0, 0), ((0, 1), 2))]
[('arrow', 1), ('stop', 2), ('stop', 2), ('stop', 0), ('arrow', 3), ('stop', 0)]
>>> done(((0, 1, 2, 3), 0), (0, 1)), done(((0, 1, 2, 3), 0), (0, 1, 2)), done(((0, 1, 2, 3), 0), (0, 1, 2, 0)), done(((2, 0, 1, 3), 1), (1,))
(((3, 1, 2, 0), 1), ((3, 0, 2, 1), 2), ((3, 0, 1, 2), 0), ((2, 0, 1, 3), 1))
>>> goes(3, (0, 1, 2, 0)), goes(3, (0, 1)), goes(3, (2,)), goes(3, (0, 1, 0, 2, 0)), goes(4, (0, 1, 2))
((1, 2, 3, 0), (3, 1, 2, 0), (0, 1, 2, 3), (1, 0, 3, 2), (1, 4, 2, 3, 0))
>>> turns(3, (0, 1, 2, 0)), turns(3, (0, 1, 0, 2, 0)), turns(3, (1,)), turns(3, (0, 1, 0)), turns(3, (0, 1, 2, 0, 1, 2, 0))
(4, 2, 1, 3, 2)

>>> from swapstops.journeys import journey_done, journey_error, steps_of
>>> tour = (((0, 1, 2, 0), 10 ** 30), ((0, 1), 1), ((1,), 5))
>>> [journey_error(ring, value) for value in (tour, (), list(tour), (((0, 1), 2),), (((0, 1), 0),), (((0, 1), True),), (((1,), 10 ** 30 + 1),), ((0, 1),))]
[None, None, 'form', ('leg', 0), ('leg', 0), ('leg', 0), ('leg', 0), ('leg', 0)]
>>> [journey_error(ring, value) for value in ((((0, 1), 1), ((2, 0), 1)), (((0, 1), 1), ((0, 1), 1), ((0, 2), 1)), (((0, 1), 1), [(1, 2), 1]), (((2,), 1),) * 501)]
[('apart', 1), ('leg', 2), ('leg', 1), 'form']
>>> journey_done(((0, 1, 2, 3), 0), tour), journey_done(((0, 1, 2, 3), 0), tour[:1]), journey_done(((3, 0, 1, 2), 2), ())
(((3, 1, 2, 0), 1), ((0, 1, 2, 3), 0), ((3, 0, 1, 2), 2))
>>> steps_of(tour) == 3 * 10 ** 30 + 1, steps_of(()), steps_of((((0, 1, 2), 1), ((2, 0), 1))), steps_of((((1,), 10 ** 30),))
(True, 0, 3, 0)

>>> from swapstops.lots import beat, colours, lots, onward
>>> fork, single = (4, ((0, 1), (1, 0), (1, 2), (2, 3), (3, 2))), (1, ())
>>> lots(fork), onward(fork), lots(single), onward(single), lots((3, ((0, 1),))), onward((3, ((0, 1),)))
(((0, 1), (2, 3)), ((0, 1),), ((0,),), (), ((0,), (1,), (2,)), ((0, 1),))
>>> lots((4, ((0, 2), (1, 3), (2, 0), (3, 1)))), lots((3, ((0, 1), (1, 2), (2, 0)))), onward((3, ((0, 2), (1, 0), (1, 2))))
(((0, 2), (1, 3)), ((0, 1, 2),), ((0, 2), (1, 0), (1, 2)))

>>> tri, square = (3, ((0, 1), (1, 2), (2, 0))), (4, ((0, 1), (1, 2), (2, 3), (3, 0)))
>>> beat(tri, 1), beat(square, 0), beat(fork, 0), beat(fork, 3), beat(single, 0), beat((4, ((0, 1), (1, 2), (2, 0), (2, 3), (3, 0))), 2)
(3, 4, 2, 2, 0, 1)
>>> colours(square), colours(single), colours((3, ((0, 1), (1, 0), (1, 2), (2, 1))))
((0, 1, 0, 1), (0,), (0, 1, 0))
>>> colours(fork)
raises Apart()
>>> colours(tri)
raises Unfit()

>>> from swapstops.kinds import kind_of
>>> tri, bow, theta = (3, ((0, 1), (1, 2), (2, 0))), (5, ((0, 1), (0, 3), (1, 2), (2, 0), (3, 4), (4, 0))), (5, ((0, 1), (0, 3), (1, 2), (2, 0), (3, 4), (4, 2)))
>>> kind_of((1, ())), kind_of((2, ((0, 1), (1, 0)))), kind_of(tri), kind_of(bow), kind_of(theta)
('lone', 'half', 'ring', 'five', 'five')
>>> kind_of((3, ((0, 1), (1, 0), (1, 2), (2, 1)))), kind_of((3, ((0, 1), (1, 2), (2, 0), (2, 1)))), kind_of((5, ((0, 1), (0, 3), (1, 2), (2, 0), (3, 4), (4, 0), (4, 3))))
('half', 'all', 'all')
>>> kind_of((2, ((0, 1),)))
raises Apart()

>>> from swapstops.names import names, names_hold, ratio
>>> right = ((0, 1, 2, 4, 3, 5), (5, 1, 2, 4, 3, 0), (5, 0, 2, 4, 3, 1), (5, 1, 2, 4, 3, 0), (5, 1, 2, 0, 3, 4))
>>> names_hold(bow, right), names_hold(bow, ((1, 2, 3, 0, 4, 5),) + right[1:]), names_hold(bow, ((1, 0, 2, 4, 3, 5),) + right[1:]), names_hold(bow, list(right)), names_hold(theta, right), names_hold(bow, names(bow))
(True, True, False, False, False, True)
>>> first = ((0, 1, 2, 3, 4, 5), 0)
>>> ratio(bow, first, (0, 1, 2, 3)), ratio(bow, first, (0, 1, 2, 5)), ratio(bow, first, (1, 0, 2, 5)), ratio(bow, ((5, 1, 2, 3, 4, 0), 1), (0, 1, 2, 5)), ratio(bow, ((1, 0, 2, 3, 4, 5), 0), (0, 1, 2, 5))
(4, 2, 3, 2, 3)
>>> names(tri)
raises Unfit()
"""


def told_examples():
    """All examples: pairs of a line to run and the line that tells what it gives, perhaps None."""
    found = []
    for line in EXAMPLES.split("\n"):
        if line.startswith(">>> "):
            found.append((line[4:], None))
        elif line:
            found[-1] = (found[-1][0], line)
    return found
