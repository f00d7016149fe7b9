import math
import random

from swapstops.errors import Apart, SwapError, Unfit
from swapstops.lots import beat, colours, lots, onward
from swapstops.runs import run_error
from tests.calls import CallCase, outcome
from tests.drawn import (all_nets, arrows_of, both_ways, called, drawn_joined, drawn_nets, drawn_run, full, net_of, ring,
                         told_nets)
from tests.models import model_of_beat, model_of_lots, round_lengths

TRI = ring(3)


def model_of_onward(net):
    told = model_of_lots(net)
    pairs = [(i, j) for i in range(len(told)) for j in range(len(told)) if i != j]
    return tuple((i, j) for i, j in pairs if any((v, w) in net[1] for v in told[i] for w in told[j]))


def told_and_drawn():
    yield from told_nets()
    yield from drawn_nets("lots", 20)
    yield from drawn_joined("lots", 10)


def in_a_row(lengths, gaps=True):
    """Rings of these lengths, one behind another, perhaps with an arrow from each to the next one."""
    arrows, first = [], 0
    for length in lengths:
        arrows += [(first + v, first + w) for v, w in ring(length)[1]]
        if gaps and first > 0:
            arrows.append((first - 1, first))
        first += length
    return net_of(first, arrows)


class LotsTest(CallCase):

    def assert_lots(self, net):
        self.assert_tells(model_of_lots(net), lots, net=net)
        self.assert_tells(model_of_onward(net), onward, net=net)

    def test_all_nets_of_up_to_three_stops(self):
        for net in [net for n in (1, 2, 3) for net in all_nets(n)]:
            self.assert_lots(net)

    def test_all_nets_of_four_stops(self):
        for net in all_nets(4):
            self.assertEqual(lots(net), model_of_lots(net))
            self.assertEqual(onward(net), model_of_onward(net))

    def test_nets_of_all_sizes(self):
        for net in told_and_drawn():
            self.assert_lots(net)

    def test_joined_ones(self):
        for n in range(1, 13):
            for net in (ring(n), full(n)):
                self.assert_tells((tuple(range(n)),), lots, net=net)
                self.assert_tells((), onward, net=net)
        for net in drawn_joined("one lot"):
            self.assertEqual(lots(net), (tuple(range(net[0])),))

    def test_without_arrows(self):
        for n in range(1, 13):
            self.assert_tells(tuple((stop,) for stop in range(n)), lots, net=(n, ()))
            self.assert_tells((), onward, net=(n, ()))

    def test_each_stop_a_lot_by_itself(self):
        for n in range(2, 13):
            down = tuple((v, w) for v, w in arrows_of(n) if v > w)
            self.assert_tells(tuple((stop,) for stop in range(n)), lots, net=(n, down))
            self.assert_tells(down, onward, net=(n, down))

    def test_lots_in_a_row(self):
        for lengths in ((2, 3), (3, 3, 3), (1, 4, 1), (2, 2, 2, 2, 2, 2), (5, 7), (1, 11), (3, 1, 4, 2)):
            ends = [sum(lengths[:spot]) for spot in range(len(lengths) + 1)]
            told = tuple(tuple(range(first, last)) for first, last in zip(ends, ends[1:]))
            net, loose = in_a_row(lengths), in_a_row(lengths, gaps=False)
            self.assert_tells(told, lots, net=net)
            self.assert_tells(tuple((i, i + 1) for i in range(len(lengths) - 1)), onward, net=net)
            self.assert_tells(told, lots, net=loose)
            self.assert_tells((), onward, net=loose)

    def test_lots_called_otherwise(self):
        draw = random.Random("otherwise")
        for lengths in ((2, 3), (3, 3, 3), (1, 4, 1), (2, 2, 2, 2, 2, 2), (3, 1, 4, 2)):
            net = in_a_row(lengths)
            for _ in range(10):
                stops = draw.sample(range(net[0]), net[0])
                other = called(net, stops)
                self.assert_lots(other)
                told = sorted(tuple(sorted(stops[stop] for stop in lot)) for lot in lots(net))
                self.assertEqual(lots(other), tuple(told))

    def test_many_arrows_between_two_lots_are_one_pair(self):
        net = net_of(6, list(in_a_row((3, 3))[1]) + [(0, 3), (0, 4), (1, 5), (2, 3)])
        self.assert_tells(((0, 1, 2), (3, 4, 5)), lots, net=net)
        self.assert_tells(((0, 1),), onward, net=net)

    def test_pairs_ascend(self):
        net = net_of(4, [(3, 0), (3, 1), (2, 1), (1, 0), (3, 2)])
        self.assert_tells(((1, 0), (2, 1), (3, 0), (3, 1), (3, 2)), onward, net=net)

    def test_onward_never_leads_round(self):
        for net in drawn_nets("onward", 30):
            many = len(lots(net))
            pairs = onward(net)
            left = set(range(many))
            while left:
                last = {i for i in left if not any(v == i and w in left for v, w in pairs)}
                self.assertTrue(last)
                left -= last

    def test_with_an_arrow_more_each_lot_lies_within_one(self):
        draw = random.Random("more")
        for net in drawn_nets("more"):
            if net[0] > 1:
                more = net_of(net[0], net[1] + (draw.choice(arrows_of(net[0])),))
                for lot in lots(net):
                    self.assertEqual(len([other for other in lots(more) if set(lot) <= set(other)]), 1)


class BeatTest(CallCase):

    def assert_beats(self, net):
        for stop in range(net[0]):
            self.assert_tells(model_of_beat(net, stop), beat, net=net, stop=stop)

    def test_all_nets_of_up_to_three_stops(self):
        for net in [net for n in (1, 2, 3) for net in all_nets(n)]:
            self.assert_beats(net)

    def test_all_nets_of_four_stops(self):
        for net in all_nets(4):
            self.assertEqual([beat(net, stop) for stop in range(4)], [model_of_beat(net, stop) for stop in range(4)])

    def test_nets_of_all_sizes(self):
        for net in told_and_drawn():
            self.assert_beats(net)

    def test_rings(self):
        draw = random.Random("rings")
        for n in range(2, 13):
            other = called(ring(n), draw.sample(range(n), n))
            for stop in range(n):
                self.assert_tells(n, beat, net=ring(n), stop=stop)
                self.assert_tells(n, beat, net=other, stop=stop)

    def test_rings_with_a_stop_in_common(self):
        for first in range(2, 11):
            for second in range(2, 13 - first + 1):
                behind = [0, *range(first, first + second - 1), 0]
                net = net_of(first + second - 1, list(ring(first)[1]) + list(zip(behind, behind[1:])))
                for stop in range(net[0]):
                    self.assert_tells(math.gcd(first, second), beat, net=net, stop=stop)

    def test_rings_with_a_way_in_common(self):
        # An arrow from one stop of a ring to another one makes a second round, of fewer steps.
        for n in range(3, 13):
            for stop in range(2, n):
                net = net_of(n, ring(n)[1] + ((0, stop),))
                told = math.gcd(n, n - stop + 1)
                self.assert_tells(told, beat, net=net, stop=0)
                self.assert_tells(told, beat, net=net, stop=1)

    def test_without_rounds(self):
        for n in range(1, 13):
            for net in ((n, ()), (n, tuple((v, w) for v, w in arrows_of(n) if v < w))):
                for stop in range(n):
                    self.assert_tells(0, beat, net=net, stop=stop)

    def test_each_lot_has_its_own(self):
        for lengths in ((2, 3), (1, 4, 1), (5, 7), (3, 1, 4, 2), (2, 4, 6)):
            for net in (in_a_row(lengths), in_a_row(lengths, gaps=False)):
                told = [0 if length == 1 else length for length in lengths for _ in range(length)]
                for stop in range(net[0]):
                    self.assert_tells(told[stop], beat, net=net, stop=stop)

    def test_all_stops_of_a_lot_have_one(self):
        for net in told_and_drawn():
            for lot in lots(net):
                self.assertEqual(len({beat(net, stop) for stop in lot}), 1)

    def test_it_divides_the_steps_of_rounds(self):
        draw = random.Random("divides")
        for net in drawn_joined("divides"):
            for _ in range(10):
                run = drawn_run(draw, net, draw.randrange(net[0]), 60)
                told = beat(net, run[0])
                back = [spot for spot, stop in enumerate(run) if stop == run[0]]
                self.assertEqual([spot % told for spot in back], [0] * len(back))

    def test_all_great_enough_multiples_come(self):
        for net in drawn_joined("great"):
            told = beat(net, 0)
            found = [steps for steps in round_lengths(net, 0, 300) if steps > 200]
            self.assertEqual(found, [steps for steps in range(201, 301) if steps % told == 0])

    def test_with_an_arrow_more_it_divides_what_it_was(self):
        draw = random.Random("beats")
        for net in drawn_nets("beats"):
            if net[0] > 1:
                more = net_of(net[0], net[1] + (draw.choice(arrows_of(net[0])),))
                for stop in range(net[0]):
                    was, told = beat(net, stop), beat(more, stop)
                    self.assertEqual(was % told if told else was, 0)


class ColoursTest(CallCase):

    def assert_colours(self, net):
        """Colours are right: by the words of the document there is just one right tuple."""
        found = outcome(colours, net)
        self.assert_tells(found, colours, net=net)
        self.assertEqual((type(found), len(found), found[0]), (tuple, net[0], 0))
        self.assertEqual({type(colour) for colour in found}, {int})
        self.assertLessEqual(set(found), {0, 1})
        self.assertEqual([v for v, w in net[1] if found[v] + found[w] != 1], [])

    def assert_as_told(self, net):
        if len(model_of_lots(net)) > 1:
            self.assert_error(Apart, colours, net=net)
        elif model_of_beat(net, 0) % 2 == 1:
            self.assert_error(Unfit, colours, net=net)
        else:
            self.assert_colours(net)

    def test_one_stop(self):
        self.assert_tells(0, beat, net=(1, ()), stop=0)
        self.assert_tells((0,), colours, net=(1, ()))

    def test_all_nets_of_up_to_three_stops(self):
        for net in [net for n in (1, 2, 3) for net in all_nets(n)]:
            self.assert_as_told(net)

    def test_nets_of_all_sizes(self):
        for net in told_and_drawn():
            self.assert_as_told(net)

    def test_rings(self):
        for n in range(2, 13):
            if n % 2 == 0:
                self.assert_tells((0, 1) * (n // 2), colours, net=ring(n))
            else:
                self.assert_error(Unfit, colours, net=ring(n))

    def test_rows_and_stars(self):
        for n in range(2, 13):
            row = both_ways(n, [(stop, stop + 1) for stop in range(n - 1)])
            self.assert_tells(tuple(stop % 2 for stop in range(n)), colours, net=row)
            star = both_ways(n, [(0, stop) for stop in range(1, n)])
            self.assert_tells((0,) + (1,) * (n - 1), colours, net=star)
            other = both_ways(n, [(n - 1, stop) for stop in range(n - 1)])
            self.assert_tells((0,) * (n - 1) + (1,), colours, net=other)

    def test_all_arrows_between_two_colours(self):
        draw = random.Random("colours")
        for n in range(2, 13):
            for _ in range(5):
                told = (0,) + tuple(draw.randint(0, 1) for _ in range(n - 2)) + (1,)
                net = net_of(n, [(v, w) for v, w in arrows_of(n) if told[v] != told[w]])
                self.assert_tells(told, colours, net=net)

    def test_apart_ahead_of_unfit(self):
        self.assert_error(Apart, colours, net=(2, ()))
        self.assert_error(Apart, colours, net=(2, ((0, 1),)))
        for lengths in ((3, 2), (3, 3), (1, 3), (3, 1), (5, 7), (2, 2)):
            self.assert_error(Apart, colours, net=in_a_row(lengths))
            self.assert_error(Apart, colours, net=in_a_row(lengths, gaps=False))

    def test_errors_are_of_the_package(self):
        for net in ((2, ()), TRI):
            with self.assertRaises(SwapError):
                colours(net)
        self.assertNotIsInstance(outcome(colours, TRI), Apart)
        self.assertNotIsInstance(outcome(colours, (2, ())), Unfit)

    def test_steps_between_colours(self):
        draw = random.Random("between")
        for net in drawn_joined("between"):
            told = outcome(colours, net)
            for steps in (3, 8, 25):
                run = drawn_run(draw, net, draw.randrange(net[0]), steps)
                self.assertIsNone(run_error(net, run))
                if isinstance(told, tuple):
                    self.assertEqual((len(run) - 1) % 2, (told[run[0]] + told[run[-1]]) % 2)
