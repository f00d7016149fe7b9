import random

from swapstops.coming import comes
from swapstops.errors import NoWay, SwapError
from swapstops.journeys import journey_done, journey_error
from swapstops.lots import lots
from swapstops.ways import can_come, entries, journey_through
from tests.calls import CallCase, outcome
from tests.drawn import (all_nets, arrows_of, both_ways, called, drawn_joined, drawn_net, drawn_nets, drawn_standing,
                         drawn_to, exchanged, full, loose_nets, net_of, ring)
from tests.models import (BOW, THETA, all_standings, model_of_done, model_of_entries, model_of_fewest, model_of_lots,
                          standings_behind)

GATE = (3, ((0, 1), (1, 0), (1, 2)))
FORK = (4, ((0, 1), (0, 2), (1, 3), (2, 3)))
FIRST, BEGIN = ((0, 1, 2, 3), 0), ((0, 1, 2, 3, 4), 0)
ONE, TWO = (1, ()), (2, ((0, 1), (1, 0)))


def in_a_row(nets, gates=None):
    """Nets one behind another, with all arrows from each to all behind it, or with so many drawn ones to the next."""
    draw = random.Random(repr(nets))
    arrows, ends, first = [], [], 0
    for n, inner in nets:
        arrows += [(first + v, first + w) for v, w in inner]
        ends.append(range(first, first + n))
        first += n
    for spot, far in enumerate(ends):
        for behind in ends[spot + 1:]:
            beyond = [(v, w) for v in far for w in behind]
            if gates is None:
                arrows += beyond
            elif behind == ends[spot + 1]:
                arrows += draw.sample(beyond, min(gates, len(beyond)))
    return net_of(first, arrows)


def chains(most):
    """Nets of several lots of up to so many stops, called anyhow, with standings to which others come or not."""
    draw = random.Random("chains")
    shapes = [
        [ONE] * 12, [ONE] * 8, [ONE] * 3, [TWO] * 6, [TWO] * 4, [ring(3)] * 4, [full(3), ring(3), TWO], [ONE, BOW, TWO],
        [BOW, THETA, TWO], [ring(4), ONE, ring(3)], [ONE, full(6), ONE], [full(11), ONE], [ONE, ring(11)], [ring(6), full(6)],
        [THETA, ring(3)], [both_ways(4, [(0, 1), (0, 2), (0, 3)]), full(4)], [ONE, ONE, ring(5), ONE], [TWO, ring(5), ONE],
    ]
    for shape in shapes:
        if sum(n for n, _ in shape) <= most:
            for gates in (None, 1, 2):
                net = in_a_row(shape, gates)
                yield draw, called(net, draw.sample(range(net[0]), net[0]))


def begin_ahead(draw, net):
    """A drawn standing at a stop from which, more or less, the most stops come."""
    reach = [sum(1 for stop in range(net[0]) if is_ahead(net, v, stop)) for v in range(net[0])]
    return (drawn_standing(draw, net[0])[0], reach.index(max(reach)))


def is_ahead(net, stop, other):
    found = {stop}
    for _ in range(net[0]):
        found |= {w for v, w in net[1] if v in found}
    return other in found


class WaysCase(CallCase):

    def assert_entries(self, net, one, other):
        self.assert_tells(model_of_entries(net, one, other), entries, net=net, one=one, other=other)

    def assert_can(self, told, net, one, other):
        self.assert_tells(told, can_come, net=net, one=one, other=other)

    def assert_leads(self, net, one, other, model=False):
        journey = self.outcome_all_ways(journey_through, {"net": net, "one": one, "other": other})
        self.assertIsNone(journey_error(net, journey), (net, one, other))
        if journey:
            self.assertEqual(journey[0][0][0], one[1])
        self.assertEqual(journey_done(one, journey), other, (net, one, other))
        if model:
            self.assertEqual(model_of_done(one, journey), other)

    def assert_no_way(self, net, one, other):
        told = entries(net, one, other)
        self.assert_error_with({"entries": told}, NoWay, journey_through, net=net, one=one, other=other)

    def assert_way(self, told, net, one, other):
        """can_come and journey_through tell so."""
        self.assert_can(told, net, one, other)
        if told:
            self.assert_leads(net, one, other)
        else:
            self.assert_no_way(net, one, other)


class EntriesTest(WaysCase):

    def test_all_nets_of_up_to_three_stops(self):
        draw = random.Random("three")
        for n in (1, 2, 3):
            told = all_standings(n)
            for net in all_nets(n):
                one = draw.choice(told)
                found = sorted(model_of_fewest(net, one))
                for other in draw.sample(told, min(12, len(told))) + draw.sample(found, min(6, len(found))):
                    self.assert_entries(net, one, other)

    def test_nets_of_four_stops(self):
        draw = random.Random("four")
        for _ in range(400):
            net, one = drawn_net(draw, 4, draw.randint(1, 8)), drawn_standing(draw, 4)
            for other in (drawn_standing(draw, 4), drawn_to(draw, net, one), drawn_to(draw, net, one, 3)):
                self.assert_entries(net, one, other)

    def test_nets_of_five_stops(self):
        draw = random.Random("five")
        for _ in range(60):
            net, one = drawn_net(draw, 5, draw.randint(3, 8)), drawn_standing(draw, 5)
            for other in (drawn_standing(draw, 5), drawn_to(draw, net, one), drawn_to(draw, net, one, 4)):
                self.assert_entries(net, one, other)

    def test_that_of_no_step(self):
        for net in [*loose_nets(), *map(full, range(1, 13)), *map(ring, range(1, 13))]:
            n = net[0]
            one = (tuple(range(n, -1, -1)), n - 1)
            told = outcome(entries, net, one, one)
            self.assertIn((n - 1, 0, 0), told)
            self.assertEqual(told, tuple(sorted(set(told))))

    def test_one_lot_has_just_one(self):
        draw = random.Random("one lot")
        for net in [BOW, THETA, *map(full, range(1, 13)), *map(ring, range(1, 13)), *drawn_joined("one lot")]:
            one, other = drawn_standing(draw, net[0]), drawn_standing(draw, net[0])
            self.assert_tells(((one[1], one[0][-1], 0),), entries, net=net, one=one, other=other)

    def test_a_lot_of_one_stop_is_crossed_only_if_it_is_changed_so(self):
        lane = (4, ((0, 1), (1, 2), (2, 3)))
        one = BEGIN
        self.assert_tells(((0, 4, 0),), entries, net=lane, one=one, other=one)
        other = drawn_to(random.Random(0), lane, one, 3)
        self.assertEqual(other, ((4, 0, 1, 3, 2), 3))
        self.assert_tells(((0, 4, 0), (1, 0, 1), (2, 1, 2), (3, 2, 3)), entries, net=lane, one=one, other=other)
        self.assert_tells(((0, 4, 0), (1, 0, 1)), entries, net=lane, one=one, other=((4, 3, 1, 0, 2), 3))

    def test_a_lot_that_is_not_changed_is_crossed_all_the_same(self):
        net = in_a_row([ring(3), ONE])
        one = ((0, 1, 2, 3, 4), 1)
        self.assert_tells(((1, 4, 0), (3, 4, 0)), entries, net=net, one=one, other=one)
        self.assert_can(True, net, one, ((0, 1, 2, 3, 4), 3))

    def test_a_fork_counts_lots_behind(self):
        net = net_of(4, FORK[1] + ((0, 3),))
        other = ((4, 0, 2, 3, 1), 3)
        self.assert_entries(net, BEGIN, other)
        told = ((0, 4, 0), (1, 0, 1), (2, 0, 1), (3, 0, 1), (3, 1, 2))
        self.assert_tells(told, entries, net=net, one=BEGIN, other=other)

    def test_at_most_so_many(self):
        for draw, net in chains(12):
            one = begin_ahead(draw, net)
            for other in (one, drawn_to(draw, net, one), drawn_standing(draw, net[0])):
                told = entries(net, one, other)
                self.assertLessEqual(len(told), net[0] * (net[0] + 1) * len(model_of_lots(net)))

    def test_chains_of_lots(self):
        # Where lots are small all standings that come can be gone through.
        for draw, net in chains(8):
            one = begin_ahead(draw, net)
            if max(len(lot) for lot in lots(net)) <= 5:
                for other in (one, drawn_to(draw, net, one), drawn_standing(draw, net[0])):
                    self.assert_entries(net, one, other)

    def test_twelve_lots_of_one_stop(self):
        draw = random.Random("twelve")
        for arrows in (tuple((v, w) for v, w in arrows_of(12) if v < w), tuple((v, v + 1) for v in range(11)),
                       tuple((v, w) for v, w in arrows_of(12) if v < w and w % 3 == 0)):
            net = called((12, arrows), draw.sample(range(12), 12))
            one = begin_ahead(draw, net)
            for steps in (0, 1, 2, 4, 11):
                other = drawn_to(draw, net, one, steps)
                self.assert_entries(net, one, other)
                self.assert_can(True, net, one, other)
                self.assert_can(steps == 0, net, other, one)
                self.assert_entries(net, one, exchanged(other, *draw.sample(range(13), 2)))


class CanComeTest(WaysCase):

    def test_all_nets_of_up_to_three_stops(self):
        draw = random.Random("three")
        for n in (1, 2, 3):
            told = all_standings(n)
            for net in all_nets(n):
                one = draw.choice(told)
                found = model_of_fewest(net, one)
                for other in told:
                    self.assertEqual(can_come(net, one, other), other in found, (net, one, other))

    def test_nets_of_four_stops(self):
        draw = random.Random("four")
        told = all_standings(4)
        for _ in range(150):
            net, one = drawn_net(draw, 4, draw.randint(1, 9)), draw.choice(told)
            found = model_of_fewest(net, one)
            for other in draw.sample(told, 12) + draw.sample(sorted(found), min(4, len(found))):
                self.assert_way(other in found, net, one, other)

    def test_nets_of_five_stops(self):
        draw = random.Random("five")
        told = all_standings(5)
        for _ in range(25):
            net, one = drawn_net(draw, 5, draw.randint(4, 9)), draw.choice(told)
            found = model_of_fewest(net, one)
            for other in draw.sample(told, 20) + draw.sample(sorted(found), min(6, len(found))):
                self.assert_way(other in found, net, one, other)

    def test_by_runs_through_chains(self):
        for draw, net in chains(12):
            one = begin_ahead(draw, net)
            for steps in (0, 1, 3, 10, 60):
                self.assert_can(True, net, one, drawn_to(draw, net, one, steps))

    def test_never_back(self):
        for draw, net in chains(12):
            one = begin_ahead(draw, net)
            other = drawn_to(draw, net, one, 100)
            if [lot for lot in lots(net) if one[1] in lot] != [lot for lot in lots(net) if other[1] in lot]:
                self.assert_can(False, net, other, one)

    def test_what_lies_where_control_was_not_stays(self):
        for n in range(2, 13):
            net = (n, tuple((v, w) for v, w in arrows_of(n) if v < w))
            one = (tuple(range(n + 1)), n - 1)
            for other in (exchanged(one, 0, n), exchanged(one, n - 1, n), (one[0], 0)):
                self.assert_can(False, net, one, other)
            self.assert_can(True, net, one, one)

    def test_in_the_end_the_last_lot_counts(self):
        # The last lot is a ring: of what it can hold just the readings turned about come.
        net = in_a_row([ONE, ring(3)], 1)
        one = ((4, 0, 1, 2, 3), 0)
        reached = [other for other in all_standings(4) if can_come(net, one, other)]
        self.assertEqual(reached, sorted(model_of_fewest(net, one)))
        self.assertEqual(len(reached), 13)


class JourneyThroughTest(WaysCase):

    def test_all_nets_of_up_to_three_stops(self):
        draw = random.Random("journeys")
        for n in (1, 2, 3):
            told = all_standings(n)
            for net in all_nets(n):
                one = draw.choice(told)
                found = model_of_fewest(net, one)
                for other in sorted(found)[::5] + draw.sample(told, min(6, len(told))):
                    self.assert_way(other in found, net, one, other)

    def test_through_eight_stops(self):
        for draw, net in chains(8):
            one = begin_ahead(draw, net)
            for steps in (0, 2, 7, 30, 200):
                self.assert_leads(net, one, drawn_to(draw, net, one, steps), model=True)
            for other in (exchanged(drawn_to(draw, net, one), 0, 1), drawn_standing(draw, net[0])):
                self.assert_way(can_come(net, one, other), net, one, other)

    def test_drawn_nets(self):
        draw = random.Random("drawn")
        for net in drawn_nets("journeys", 20):
            if net[0] <= 8:
                one = drawn_standing(draw, net[0])
                self.assert_leads(net, one, drawn_to(draw, net, one, 50))
                other = drawn_standing(draw, net[0])
                self.assert_way(can_come(net, one, other), net, one, other)

    def test_joined_nets_of_eight_stops(self):
        draw = random.Random("joined")
        for net in (full(8), ring(8), both_ways(8, [(stop, stop + 1) for stop in range(7)])):
            one = drawn_standing(draw, 8)
            self.assert_leads(net, one, drawn_to(draw, net, one, 99))
            other = drawn_standing(draw, 8)
            self.assert_way(comes(net, one, other), net, one, other)

    def test_somewhat_more_stops(self):
        draw = random.Random("more")
        net = in_a_row([BOW, TWO, ring(3)], 2)
        one = drawn_standing(draw, 10)
        self.assert_leads(net, one, drawn_to(draw, net, one, 60))

    def test_no_way(self):
        self.assert_error_with({"entries": ((0, 3, 0),)}, NoWay, journey_through,
                               net=GATE, one=FIRST, other=((0, 3, 2, 1), 2))
        for net in loose_nets():
            if net[0] <= 8:
                n = net[0]
                one = (tuple(range(n + 1)), 0)
                for other in (exchanged(one, 0, 1), (one[0], n - 1), exchanged(one, n - 1, n)):
                    told = other in model_of_fewest(net, one) if n <= 4 else can_come(net, one, other)
                    self.assert_way(told, net, one, other)

    def test_is_a_swap_error(self):
        with self.assertRaises(SwapError):
            journey_through((1, ()), ((0, 1), 0), ((1, 0), 0))


class PromisesTest(WaysCase):
    """What holds by [I6]."""

    def test_of_a_joined_net_it_is_comes(self):
        draw = random.Random("comes")
        for net in [BOW, THETA, *map(ring, range(1, 13)), *map(full, range(1, 13)), *drawn_joined("comes")]:
            one = drawn_standing(draw, net[0])
            for other in (drawn_standing(draw, net[0]), drawn_to(draw, net, one), exchanged(one, 0, net[0])):
                self.assert_can(comes(net, one, other), net, one, other)

    def test_to_itself(self):
        draw = random.Random("itself")
        for net in [*drawn_nets("itself"), *loose_nets(), *drawn_joined("itself", 1)]:
            one = drawn_standing(draw, net[0])
            self.assert_can(True, net, one, one)

    def test_to_a_third_one(self):
        for draw, net in chains(12):
            one = begin_ahead(draw, net)
            other = drawn_to(draw, net, one, 5)
            for third in (drawn_to(draw, net, other, 8), drawn_to(draw, net, other, 50)):
                self.assertTrue(can_come(net, one, other) and can_come(net, other, third))
                self.assertTrue(can_come(net, one, third))

    def test_with_an_arrow_more_each_entry_stays(self):
        draw = random.Random("stays")
        for _ in range(150):
            n = draw.randint(2, 7)
            net, one = drawn_net(draw, n, draw.randint(1, 2 * n)), drawn_standing(draw, n)
            more = net_of(n, net[1] + (draw.choice(arrows_of(n)),))
            if model_of_lots(net) == model_of_lots(more):
                other = drawn_to(draw, more, one, draw.randint(0, 20))
                for other in (other, drawn_standing(draw, n)):
                    self.assertLessEqual(set(entries(net, one, other)), set(entries(more, one, other)))

    def test_an_entry_for_each_standing_that_comes_from_another_lot(self):
        draw = random.Random("each")
        for _ in range(60):
            n = draw.randint(2, 4)
            net, one = drawn_net(draw, n, draw.randint(1, 2 * n)), drawn_standing(draw, n)
            homes = {stop: lot for lot in model_of_lots(net) for stop in lot}
            for standing in model_of_fewest(net, one):
                for other in standings_behind(net, standing):
                    if homes[other[1]] != homes[standing[1]]:
                        told = [entry[:2] for entry in entries(net, one, other)]
                        self.assertIn((other[1], other[0][-1]), told)
