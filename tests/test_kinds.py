import itertools
import math
import random

from swapstops.errors import Apart, SwapError
from swapstops.kinds import kind_of
from tests.calls import CallCase, outcome
from tests.drawn import all_nets, arrows_of, both_ways, called, drawn_joined, drawn_nets, full, net_of, ring, told_nets
from tests.models import BOW, FIVES, THETA, model_of_kind


class KindCase(CallCase):

    def assert_kind(self, told, net):
        self.assert_tells(told, kind_of, net=net)

    def assert_as_model(self, net):
        told = model_of_kind(net)
        found = outcome(kind_of, net)
        if told is None:
            self.assertIs(type(found), Apart, net)
        else:
            self.assertEqual(found, told, net)

    def other_ways(self, net, many=8):
        """The net, its stops called otherwise in so many drawn ways."""
        draw = random.Random(repr(net))
        for _ in range(many):
            yield called(net, draw.sample(range(net[0]), net[0]))


class EachKindTest(KindCase):

    def test_one_stop(self):
        self.assert_kind("lone", (1, ()))

    def test_two_stops(self):
        self.assert_kind("half", (2, ((0, 1), (1, 0))))
        for arrows in ((), ((0, 1),), ((1, 0),)):
            self.assert_error(Apart, kind_of, net=(2, arrows))

    def test_rings(self):
        for n in range(3, 13):
            self.assert_kind("ring", ring(n))
            for net in self.other_ways(ring(n)):
                self.assert_kind("ring", net)
        for net in all_nets(4):
            if model_of_kind(net) == "ring":
                self.assert_kind("ring", net)

    def test_a_ring_with_an_arrow_more(self):
        for n in range(3, 13):
            for arrow in arrows_of(n):
                if arrow not in ring(n)[1]:
                    net = net_of(n, ring(n)[1] + (arrow,))
                    v, w = arrow
                    second = (v - w) % n + 1
                    self.assert_kind("half" if math.gcd(n, second) % 2 == 0 else "all", net)

    def test_a_ring_with_an_arrow_fewer(self):
        for n in range(3, 13):
            for spot in range(n):
                self.assert_error(Apart, kind_of, net=(n, ring(n)[1][:spot] + ring(n)[1][spot + 1:]))

    def test_an_arrow_from_each_stop_but_not_joined(self):
        self.assert_error(Apart, kind_of, net=(4, ((0, 1), (1, 0), (2, 3), (3, 2))))
        self.assert_error(Apart, kind_of, net=(3, ((0, 1), (1, 0), (2, 0))))
        self.assert_error(Apart, kind_of, net=(6, ((0, 1), (1, 2), (2, 0), (3, 4), (4, 5), (5, 3))))

    def test_halves(self):
        for n in range(3, 13):
            row = both_ways(n, [(stop, stop + 1) for stop in range(n - 1)])
            star = both_ways(n, [(0, stop) for stop in range(1, n)])
            parted = net_of(n, [(v, w) for v, w in arrows_of(n) if (v + w) % 2 == 1])
            for half in (row, star, parted):
                self.assert_kind("half", half)
                for net in self.other_ways(half, 4):
                    self.assert_kind("half", net)
        for n in range(4, 13, 2):
            self.assert_kind("half", net_of(n, ring(n)[1] + ((1, 0),)))

    def test_all(self):
        for n in range(3, 13):
            for net in (full(n), net_of(n, both_ways(n, [(0, stop) for stop in range(1, n)])[1] + ((1, 2),))):
                self.assert_kind("all", net)
                for other in self.other_ways(net, 4):
                    self.assert_kind("all", other)
        for n in range(3, 13, 2):
            self.assert_kind("all", net_of(n, ring(n)[1] + ((1, 0),)))


class FiveTest(KindCase):

    def test_both_called_otherwise_in_all_ways(self):
        for five in (BOW, THETA):
            for stops in itertools.permutations(range(5)):
                self.assert_kind("five", called(five, stops))
        self.assertEqual(len(FIVES), 180)

    def test_all_nets_of_five_stops_and_six_arrows(self):
        found = []
        for arrows in itertools.combinations(arrows_of(5), 6):
            if outcome(kind_of, (5, arrows)) == "five":
                found.append((5, arrows))
        self.assertEqual(found, FIVES)

    def test_with_an_arrow_more(self):
        for net in FIVES:
            for arrow in arrows_of(5):
                if arrow not in net[1]:
                    self.assertEqual(kind_of(net_of(5, net[1] + (arrow,))), "all")
        self.assert_kind("all", net_of(5, BOW[1] + ((1, 0),)))
        self.assert_kind("all", net_of(5, THETA[1] + ((4, 0),)))

    def test_with_an_arrow_fewer(self):
        for net in FIVES:
            for spot in range(6):
                self.assertIs(type(outcome(kind_of, (5, net[1][:spot] + net[1][spot + 1:]))), Apart)
        self.assert_error(Apart, kind_of, net=(5, BOW[1][1:]))
        self.assert_error(Apart, kind_of, net=(5, THETA[1][:-1]))

    def test_with_an_arrow_turned_about(self):
        for net in FIVES[::5] + [BOW, THETA]:
            for v, w in net[1]:
                self.assert_as_model(net_of(5, [arrow for arrow in net[1] if arrow != (v, w)] + [(w, v)]))

    def test_all_arrows_turned_about(self):
        for net in FIVES:
            turned = net_of(5, [(w, v) for v, w in net[1]])
            self.assertEqual(kind_of(turned), "five")

    def test_its_arrows_among_more_stops(self):
        for net in (BOW, THETA):
            self.assert_error(Apart, kind_of, net=(6, net[1]))
            self.assert_kind("all", net_of(6, net[1] + ((0, 5), (5, 0))))
            self.assert_kind("all", net_of(7, net[1] + ((1, 5), (5, 6), (6, 1))))

    def test_others_of_five_stops_and_six_arrows(self):
        self.assert_kind("half", net_of(5, [(0, 1), (1, 2), (2, 3), (3, 0), (0, 4), (4, 0)]))
        self.assert_kind("half", net_of(5, [(0, 1), (1, 2), (2, 3), (3, 0), (0, 4), (4, 2)]))
        for arrow in ((1, 0), (0, 2), (0, 3)):
            self.assert_kind("all", net_of(5, ring(5)[1] + (arrow,)))


class ModelTest(KindCase):

    def test_all_nets_of_up_to_four_stops(self):
        for net in [net for n in (1, 2, 3, 4) for net in all_nets(n)]:
            self.assert_as_model(net)

    def test_nets_of_all_sizes(self):
        for net in [*told_nets(), *drawn_nets("kinds", 20), *drawn_joined("kinds", 20)]:
            self.assert_as_model(net)

    def test_drawn_nets_of_five_stops(self):
        draw = random.Random("five")
        for _ in range(400):
            self.assert_as_model(net_of(5, draw.sample(arrows_of(5), draw.randint(5, 9))))

    def test_the_same_for_all_ways_to_call_stops(self):
        for net in drawn_joined("ways", 2):
            told = kind_of(net)
            for other in self.other_ways(net):
                self.assert_kind(told, other)


class ApartTest(KindCase):

    def test_nets_that_are_not_joined(self):
        for n in range(2, 13):
            self.assert_error(Apart, kind_of, net=(n, ()))
            self.assert_error(Apart, kind_of, net=(n, ((0, 1),)))
            self.assert_error(Apart, kind_of, net=(n, tuple((v, w) for v, w in arrows_of(n) if v < w)))
            self.assert_error(Apart, kind_of, net=(n, tuple((v, w) for v, w in arrows_of(n) if v != 0)))

    def test_is_a_swap_error(self):
        with self.assertRaises(SwapError):
            kind_of((2, ()))
