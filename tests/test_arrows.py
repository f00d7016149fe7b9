import random

from swapstops.arrows import freeing, spare
from swapstops.errors import Apart, SwapError, Unfit
from swapstops.kinds import kind_of
from swapstops.likeness import alike
from swapstops.lots import beat, colours
from tests.calls import CallCase, outcome
from tests.drawn import (arrows_of, both_ways, called, drawn_halves, drawn_joined, full, loose_nets, net_of, parted, ring)
from tests.models import BOW, FIVES, THETA, all_joined, model_of_fewest, model_of_kind

LONE, TWO = (1, ()), (2, ((0, 1), (1, 0)))


def with_arrow(net, arrow):
    return net_of(net[0], net[1] + (arrow,))


def without(net, arrow):
    return net_of(net[0], [other for other in net[1] if other != arrow])


def absent(net):
    return [arrow for arrow in arrows_of(net[0]) if arrow not in net[1]]


def what_comes(net):
    return [model_of_fewest(net, (tuple(range(net[0] + 1)), stop)).keys() for stop in range(net[0])]


def model_of_spare(net):
    """The spare arrows, by the words of the document, for nets of few stops."""
    told = what_comes(net)
    rests = [(arrow, without(net, arrow)) for arrow in net[1]]
    return tuple(arrow for arrow, rest in rests if model_of_kind(rest) is not None and what_comes(rest) == told)


def held_back():
    """Joined nets of three to twelve stops that are not of the kind "all"."""
    draw = random.Random("held back")
    for n in range(3, 13):
        yield ring(n)
        yield called(ring(n), draw.sample(range(n), n))
        yield both_ways(n, [(0, stop) for stop in range(1, n)])
        yield parted(n, [stop % 2 for stop in range(n)])
    yield from FIVES[::7]
    yield BOW
    yield THETA
    yield from drawn_halves("held back", 2)


class FreeingTest(CallCase):

    def assert_frees(self, net):
        found = self.outcome_all_ways(freeing, {"net": net})
        self.assertIn(found, absent(net))
        self.assertEqual({type(stop) for stop in found}, {int})
        self.assertEqual(model_of_kind(with_arrow(net, found)), "all")

    def assert_unfit(self, net):
        self.assert_error(Unfit, freeing, net=net)

    def test_all_joined_nets_of_three_stops(self):
        for net in all_joined(3):
            if model_of_kind(net) == "all":
                self.assert_unfit(net)
            else:
                self.assert_frees(net)

    def test_joined_nets_of_four_stops(self):
        for net in all_joined(4):
            if model_of_kind(net) == "all":
                self.assertIs(type(outcome(freeing, net)), Unfit)
            else:
                self.assert_frees(net)

    def test_all_kinds_and_sizes(self):
        for net in held_back():
            self.assert_frees(net)

    def test_all_fives(self):
        for net in FIVES:
            self.assertEqual(model_of_kind(with_arrow(net, freeing(net))), "all")

    def test_nets_that_let_all_come(self):
        for net in [*map(full, range(3, 13)), *[with_arrow(net, freeing(net)) for net in held_back()]]:
            self.assert_unfit(net)

    def test_fewer_than_three_stops(self):
        self.assert_unfit(LONE)
        self.assert_unfit(TWO)


class SpareTest(CallCase):

    def assert_spare(self, told, net):
        self.assert_tells(tuple(told), spare, net=net)

    def test_small_joined_nets_by_going_through(self):
        for net in [net for n in (1, 2, 3) for net in all_joined(n)] + all_joined(4)[::90]:
            self.assert_spare(model_of_spare(net), net)

    def test_joined_nets_of_four_stops(self):
        for net in all_joined(4)[::9]:
            rests = [(arrow, without(net, arrow)) for arrow in net[1]]
            told = [arrow for arrow, rest in rests if model_of_kind(rest) is not None and alike(rest, net)]
            self.assert_spare(told, net)

    def test_by_the_words_of_the_document(self):
        nets = [*drawn_joined("spare", 6), *drawn_halves("spare", 3), *held_back()]
        for net in nets + [with_arrow(net, freeing(net)) for net in held_back()]:
            rests = [(arrow, without(net, arrow)) for arrow in net[1]]
            told = [arrow for arrow, rest in rests if model_of_kind(rest) is not None and alike(rest, net)]
            self.assert_spare(told, net)

    def test_rings_fives_and_lone_nets_have_none(self):
        for net in [LONE, TWO, *map(ring, range(3, 13)), *FIVES]:
            self.assert_spare((), net)

    def test_a_five_and_an_arrow_more(self):
        for net in FIVES[::12]:
            for arrow in absent(net):
                # Without this arrow it is a five again: so it can not go.
                self.assertNotIn(arrow, spare(with_arrow(net, arrow)))

    def test_all_arrows(self):
        for n in range(3, 13):
            told = arrows_of(n) if n > 2 else ()
            self.assert_spare(told, full(n))
        self.assertEqual(len(spare(full(12))), 132)

    def test_all_arrows_between_two_colours(self):
        for n in range(4, 13):
            for shades in ([stop % 2 for stop in range(n)], [0, 0] + [1] * (n - 2)):
                net = parted(n, shades)
                rests = [without(net, arrow) for arrow in net[1]]
                self.assertEqual({model_of_kind(rest) for rest in rests}, {"half"})
                self.assert_spare(net[1], net)

    def test_trees_have_none(self):
        for n in range(3, 13):
            self.assert_spare((), both_ways(n, [(0, stop) for stop in range(1, n)]))
            self.assert_spare((), both_ways(n, [(stop, stop + 1) for stop in range(n - 1)]))


class ApartTest(CallCase):

    def test_ahead_of_all(self):
        for net in [*loose_nets(), (5, BOW[1][1:]), (5, THETA[1][:-1])]:
            self.assert_error(Apart, freeing, net=net)
            self.assert_error(Apart, spare, net=net)

    def test_errors_are_of_the_package(self):
        for net in ((2, ()), TWO):
            with self.assertRaises(SwapError):
                freeing(net)


class PromisesTest(CallCase):
    """What holds by [J4] of arrows."""

    def test_free_exactly_if_the_beat_is_odd_then(self):
        for net in [*held_back(), *[net for net in all_joined(3) + all_joined(4)[::5] if model_of_kind(net) != "all"]]:
            for arrow in absent(net):
                more = with_arrow(net, arrow)
                self.assertEqual(kind_of(more) == "all", beat(more, 0) % 2 == 1)

    def test_by_arrows_between_two_stops_of_one_colour(self):
        for net in held_back():
            kind, n = model_of_kind(net), net[0]
            for v, w in absent(net):
                is_free = kind_of(with_arrow(net, (v, w))) == "all"
                if kind == "half" or kind == "ring" and n % 2 == 0:
                    shades = colours(net)
                    self.assertEqual(is_free, shades[v] == shades[w])
                else:
                    self.assertTrue(is_free)

    def test_spare_if_the_kind_stays(self):
        for net in [*drawn_joined("stays", 4), *drawn_halves("stays", 2), *held_back()]:
            kind = model_of_kind(net)
            stays = [arrow for arrow in net[1] if model_of_kind(without(net, arrow)) == kind]
            self.assertEqual(spare(net), tuple(stays) if kind in ("half", "all") else ())
