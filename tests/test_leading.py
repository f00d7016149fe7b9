import itertools
import random

from swapstops.coming import bar_holds, comes
from swapstops.errors import Apart, Barred, SwapError
from swapstops.journeys import journey_done, journey_error
from swapstops.leading import journey_to
from tests.calls import CallCase, outcome
from tests.drawn import (arrows_of, both_ways, called, drawn_halves, drawn_joined, drawn_row, drawn_standing, drawn_to,
                         exchanged, full, loose_nets, net_of, parted, ring)
from tests.models import BOW, FIVES, THETA, all_joined, all_standings, model_of_done, model_of_fewest, model_of_kind

LONE, TWO = (1, ()), (2, ((0, 1), (1, 0)))


def ring_with_ear(n, length, last):
    """A ring of so many of n stops, and a way through all others that leaves it at 0 and comes back at last."""
    way = [0, *range(length, n), last]
    return net_of(n, ring(length)[1] + tuple(zip(way, way[1:])))


def rings_with_ears(n):
    """All rings with one ear that are through n stops: the nets with the fewest arrows, but for rings alone."""
    for length in range(2, n + 1):
        for last in range(length):
            if length < n or last not in (0, 1):
                yield ring_with_ear(n, length, last)


class LeadingCase(CallCase):

    def assert_leads(self, net, one, other, model=False):
        journey = self.outcome_all_ways(journey_to, {"net": net, "one": one, "other": other})
        self.assertIsNone(journey_error(net, journey), (net, one, other))
        if journey:
            self.assertEqual(journey[0][0][0], one[1], (net, one, other))
        self.assertEqual(journey_done(one, journey), other, (net, one, other))
        if model:
            self.assertEqual(model_of_done(one, journey), other)
        return journey

    def assert_barred(self, net, one, other):
        found = self.outcome_all_ways(journey_to, {"net": net, "one": one, "other": other})
        self.assertIs(type(found), Barred, (net, one, other))
        self.assertEqual(list(vars(found)), ["paper"])
        self.assertIs(bar_holds(net, one, other, found.paper), True)

    def assert_as_comes(self, net, one, other):
        if comes(net, one, other):
            self.assert_leads(net, one, other)
        else:
            self.assert_barred(net, one, other)


class SmallNetsTest(LeadingCase):

    def test_all_joined_nets_of_up_to_three_stops(self):
        draw = random.Random("three")
        for n in (1, 2, 3):
            told = all_standings(n)
            for net in all_joined(n):
                one = draw.choice(told)
                found = model_of_fewest(net, one)
                for other in told:
                    if other in found:
                        self.assert_leads(net, one, other, model=True)
                    else:
                        self.assert_barred(net, one, other)

    def test_all_joined_nets_of_four_stops(self):
        draw = random.Random("four")
        for net in all_joined(4):
            one = drawn_standing(draw, 4)
            journey = journey_to(net, one, drawn_to(draw, net, one))
            self.assertIsNone(journey_error(net, journey))
            self.assert_as_comes(net, one, drawn_standing(draw, 4))

    def test_some_of_four_stops_whole(self):
        one = ((2, 0, 4, 1, 3), 1)
        for net in (ring_with_ear(4, 4, 2), ring_with_ear(4, 3, 2), parted(4, (0, 1, 0, 1)), ring(4), full(4)):
            found = model_of_fewest(net, one)
            for other in all_standings(4):
                told = outcome(journey_to, net, one, other)
                self.assertEqual(type(told), tuple if other in found else Barred)
                if other in found:
                    self.assertIsNone(journey_error(net, told))
                    self.assertEqual(journey_done(one, told), other)

    def test_a_lone_net(self):
        for one, other in itertools.product(all_standings(1), repeat=2):
            self.assert_as_comes(LONE, one, other)
        self.assert_error_with({"paper": ("still",)}, Barred, journey_to, net=LONE, one=((0, 1), 0), other=((1, 0), 0))


class KindsTest(LeadingCase):

    def test_rings(self):
        draw = random.Random("rings")
        for n in range(3, 9):
            for net in (ring(n), called(ring(n), draw.sample(range(n), n))):
                one = drawn_standing(draw, n)
                for other in model_of_fewest(net, one):
                    self.assert_leads(net, one, other)
                self.assert_barred(net, one, exchanged(one, 0, n))
                self.assert_barred(net, one, (one[0], (one[1] + 1) % n))

    def test_fives_called_anyhow(self):
        draw = random.Random("fives")
        for net in FIVES[::4]:
            one = drawn_standing(draw, 5)
            for other in (drawn_to(draw, net, one), drawn_to(draw, net, one, 200)):
                self.assert_leads(net, one, other, model=True)
            self.assert_barred(net, one, exchanged(one, *draw.sample(range(6), 2)))
            self.assert_as_comes(net, one, drawn_standing(draw, 5))

    def test_both_fives_whole(self):
        one = ((5, 2, 0, 4, 1, 3), 3)
        for net in (BOW, THETA):
            for other in model_of_fewest(net, one):
                journey = journey_to(net, one, other)
                self.assertIsNone(journey_error(net, journey))
                self.assertEqual(journey_done(one, journey), other)

    def test_halves(self):
        draw = random.Random("halves")
        for net in drawn_halves("halves", 6):
            if net[0] <= 8:
                one = drawn_standing(draw, net[0])
                self.assert_leads(net, one, drawn_to(draw, net, one))
                odd = exchanged(one, 0, net[0])
                self.assert_error_with({"paper": ("sign",)}, Barred, journey_to, net=net, one=one, other=odd)
                third = exchanged(odd, 0, 1)
                self.assert_leads(net, one, third)

    def test_nets_that_let_all_come(self):
        draw = random.Random("all")
        for net in drawn_joined("all", 12):
            if net[0] <= 8 and model_of_kind(net) == "all":
                for _ in range(3):
                    self.assert_leads(net, drawn_standing(draw, net[0]), drawn_standing(draw, net[0]))


class GreatNetsTest(LeadingCase):

    def test_all_rings_with_an_ear(self):
        draw = random.Random("ears")
        for n in range(3, 9):
            for net in rings_with_ears(n):
                self.assertNotIn(model_of_kind(net), (None, "ring"))
                net = called(net, draw.sample(range(n), n))
                one = drawn_standing(draw, n)
                self.assert_leads(net, one, drawn_to(draw, net, one, 300))
                self.assert_as_comes(net, one, drawn_standing(draw, n))

    def test_eight_stops_to_all_stops(self):
        draw = random.Random("eight")
        for net in (ring_with_ear(8, 8, 2), ring_with_ear(8, 7, 5), ring_with_ear(8, 8, 4), full(8)):
            one = drawn_standing(draw, 8)
            for stop in range(8):
                self.assert_leads(net, one, (one[0], stop))
                self.assert_leads(net, one, (drawn_row(draw, 8), stop), model=True)

    def test_eight_stops_two_ways(self):
        draw = random.Random("trees")
        trees = [[(stop, stop + 1) for stop in range(7)], [(0, stop) for stop in range(1, 8)],
                 [((stop - 1) // 2, stop) for stop in range(1, 8)]]
        for pairs in trees:
            for more in ([], [(0, 2)], [(1, 3)]):
                net = net_of(8, both_ways(8, pairs)[1] + tuple(more))
                for _ in range(4):
                    one = drawn_standing(draw, 8)
                    self.assert_leads(net, one, drawn_to(draw, net, one, 100))
                    self.assert_as_comes(net, one, drawn_standing(draw, 8))

    def test_eight_stops_many_arrows(self):
        draw = random.Random("many")
        for many in range(9, 57, 3):
            net = net_of(8, called(ring(8), draw.sample(range(8), 8))[1] + tuple(draw.sample(arrows_of(8), many)))
            one = drawn_standing(draw, 8)
            self.assert_leads(net, one, drawn_to(draw, net, one, 100))
            self.assert_as_comes(net, one, drawn_standing(draw, 8))
        for shades in ((0, 1) * 4, (0,) + (1,) * 7, (0, 0, 0, 0, 1, 1, 1, 1)):
            one = drawn_standing(draw, 8)
            self.assert_as_comes(parted(8, shades), one, drawn_standing(draw, 8))
            self.assert_leads(parted(8, shades), one, exchanged(exchanged(one, 0, 8), 3, 5))

    def test_orders_of_all_shapes(self):
        # By where things go: several exchanges at once, things round in threes, fours and so on.
        shapes = [(2, 2), (3,), (2, 2, 2, 2), (9,), (3, 3, 3), (4, 4), (5, 4), (2, 2, 5), (4, 2), (6, 2), (2, 2, 3), (7,), (2,)]
        for net in (ring_with_ear(8, 8, 2), ring_with_ear(8, 5, 3), full(8)):
            for shape in shapes:
                row, first = list(range(9)), 0
                for length in shape:
                    row[first:first + length] = [*range(first + 1, first + length), first]
                    first += length
                one = (tuple(range(9)), 4)
                # A run, and at most four times three legs: each time a round, there and back.
                self.assertLessEqual(len(self.assert_leads(net, one, (tuple(row), 4))), 13)

    def test_journeys_are_short(self):
        draw = random.Random("short")
        for net in [ring_with_ear(8, 8, 2), ring_with_ear(8, 8, 3), full(8), ring(8), BOW]:
            one = drawn_standing(draw, net[0])
            journey = self.assert_leads(net, one, drawn_to(draw, net, one, 500))
            self.assertLessEqual(len(journey), 13)
            self.assertLess(max(len(run) for run, _ in journey), 500)

    def test_somewhat_more_stops(self):
        draw = random.Random("more")
        for net in (ring_with_ear(9, 9, 2), full(9), ring(9), parted(10, (0, 1) * 5)):
            one = drawn_standing(draw, net[0])
            self.assert_leads(net, one, drawn_to(draw, net, one, 100))


class OneStandingTest(LeadingCase):

    def test_to_itself(self):
        draw = random.Random("itself")
        for net in [LONE, TWO, BOW, THETA, *[make(n) for n in range(3, 9) for make in (ring, full)], *drawn_joined("one", 1)]:
            one = drawn_standing(draw, net[0])
            self.assert_leads(net, one, one)

    def test_the_same_row_at_another_stop(self):
        draw = random.Random("stop")
        for net in drawn_joined("stop", 4):
            if net[0] <= 8:
                one = drawn_standing(draw, net[0])
                for stop in range(net[0]):
                    self.assert_as_comes(net, one, (one[0], stop))


class ErrorsTest(LeadingCase):

    def test_apart_ahead_of_barred(self):
        draw = random.Random("apart")
        for net in [*loose_nets(), (5, BOW[1][1:]), (5, THETA[1][:-1])]:
            if net[0] <= 8:
                one = drawn_standing(draw, net[0])
                for other in (one, exchanged(one, 0, 1), drawn_standing(draw, net[0]), (one[0], (one[1] + 1) % net[0])):
                    self.assert_error(Apart, journey_to, net=net, one=one, other=other)

    def test_papers(self):
        self.assert_error_with({"paper": ("sign",)}, Barred, journey_to, net=TWO, one=((0, 1, 2), 0), other=((1, 0, 2), 0))
        for net in (ring(3), ring(8), BOW, THETA, parted(8, (0, 1) * 4), LONE):
            one = (tuple(range(net[0] + 1)), 0)
            self.assert_barred(net, one, exchanged(one, 0, 1))

    def test_errors_are_of_the_package(self):
        for net in (TWO, (2, ())):
            with self.assertRaises(SwapError):
                journey_to(net, ((0, 1, 2), 0), ((1, 0, 2), 0))


class PromisesTest(LeadingCase):
    """What holds by [G3]."""

    def test_a_journey_exactly_if_it_comes(self):
        draw = random.Random("exactly")
        nets = [LONE, TWO, BOW, THETA, *map(ring, range(3, 9)), *drawn_joined("exactly"), *drawn_halves("exactly")]
        for net in nets:
            if net[0] <= 8:
                one = drawn_standing(draw, net[0])
                for other in (drawn_to(draw, net, one), drawn_standing(draw, net[0]), exchanged(one, 0, net[0])):
                    self.assert_as_comes(net, one, other)
