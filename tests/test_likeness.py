import itertools
import random

from swapstops.coming import comes
from swapstops.errors import Apart, SwapError, Unfit
from swapstops.likeness import alike, parting
from swapstops.standings import standing_error
from tests.calls import CallCase, outcome
from tests.drawn import (both_ways, called, drawn_halves, drawn_joined, full, loose_nets, net_of, parted, ring)
from tests.models import BOW, FIVES, THETA, all_joined, model_of_fewest, model_of_kind


def what_comes(net):
    """To what each standing comes: told of those with things in order, as things may be called anyhow."""
    return tuple(tuple(sorted(model_of_fewest(net, (tuple(range(net[0] + 1)), stop)))) for stop in range(net[0]))


def colours_of(net):
    found = {0: 0}
    while len(found) < net[0]:
        found |= {w: 1 - found[v] for v, w in net[1] if v in found}
    return tuple(found[stop] for stop in range(net[0]))


def model_of_alike(one, other):
    """Whether two joined nets of as many stops are alike, by [J4]."""
    kinds = (model_of_kind(one), model_of_kind(other))
    if kinds == ("half", "half"):
        return colours_of(one) == colours_of(other)
    return kinds == ("all", "all") or one == other


class LikenessCase(CallCase):

    def assert_likeness(self, told, one, other):
        self.assert_tells(told, alike, one=one, other=other)
        self.assert_parting(told, one, other)

    def assert_parting(self, told, one, other):
        """parting tells None if both are alike, and otherwise two standings that do part them."""
        found = self.outcome_all_ways(parting, {"one": one, "other": other})
        if told:
            self.assertIsNone(found)
            return
        self.assertEqual((type(found), len(found)), (tuple, 2))
        first, second = found
        self.assertEqual([standing_error(one[0], standing) for standing in found], [None, None])
        self.assertNotEqual(comes(one, first, second), comes(other, first, second), (one, other))


class AlikeTest(LikenessCase):

    def test_all_joined_nets_of_up_to_three_stops(self):
        for n in (1, 2, 3):
            told = {net: what_comes(net) for net in all_joined(n)}
            for one, other in itertools.product(told, repeat=2):
                self.assert_likeness(told[one] == told[other], one, other)

    def test_joined_nets_of_four_stops(self):
        nets = all_joined(4)[::80] + [ring(4), full(4), parted(4, (0, 1, 0, 1)), parted(4, (0, 0, 1, 1))]
        nets += [both_ways(4, [(0, 1), (1, 2), (2, 3)]), both_ways(4, [(0, 1), (0, 2), (0, 3)]), called(ring(4), (0, 2, 1, 3))]
        told = {net: what_comes(net) for net in nets}
        for one, other in itertools.product(told, repeat=2):
            self.assertEqual(model_of_alike(one, other), told[one] == told[other])
            self.assertEqual(alike(one, other), told[one] == told[other])
        draw = random.Random("four")
        for one, other in draw.sample(list(itertools.product(told, repeat=2)), 250):
            self.assert_likeness(told[one] == told[other], one, other)

    def test_all_kinds_and_sizes(self):
        draw = random.Random("kinds")
        for n in range(1, 13):
            nets = [net for net in [*drawn_joined("alike", 4), *drawn_halves("alike", 2)] if net[0] == n]
            nets += [full(n), ring(n), both_ways(n, [(stop, stop + 1) for stop in range(n - 1)])]
            nets += [called(ring(n), draw.sample(range(n), n))]
            for one, other in itertools.product(nets, repeat=2):
                self.assert_likeness(model_of_alike(one, other), one, other)

    def test_nets_that_let_all_come(self):
        for n in range(3, 13):
            one, other = full(n), net_of(n, both_ways(n, [(0, stop) for stop in range(1, n)])[1] + ((1, 2),))
            self.assert_likeness(True, one, other)

    def test_halves(self):
        draw = random.Random("halves")
        for n in range(3, 13):
            shades = [(0, 1, 0) + tuple(draw.randint(0, 1) for _ in range(n - 3)) for _ in range(4)]
            for one, other in itertools.product(shades, repeat=2):
                self.assert_likeness(one == other, parted(n, one), parted(n, other))
        row = both_ways(12, [(stop, stop + 1) for stop in range(11)])
        self.assert_likeness(True, row, parted(12, (0, 1) * 6))
        self.assert_likeness(False, row, parted(12, (0, 1) * 5 + (1, 0)))

    def test_rings(self):
        draw = random.Random("rings")
        for n in range(3, 13):
            nets = sorted({called(ring(n), draw.sample(range(n), n)) for _ in range(4)} | {ring(n)})
            nets += [net_of(n, [(w, v) for v, w in ring(n)[1]])]
            for one, other in itertools.product(nets, repeat=2):
                self.assert_likeness(one == other, one, other)

    def test_fives(self):
        draw = random.Random("fives")
        for one, other in itertools.product(FIVES, repeat=2):
            self.assertEqual(alike(one, other), one == other)
        for net in FIVES[::3]:
            self.assert_likeness(True, net, net)
            for other in [*draw.sample(FIVES, 3), BOW, THETA, ring(5), full(5), parted(5, (0, 1, 0, 1, 1))]:
                self.assert_likeness(net == other, net, other)
                self.assert_likeness(net == other, other, net)

    def test_fives_by_going_through(self):
        told = [what_comes(net) for net in FIVES[::20]]
        self.assertEqual(len(set(told)), len(told))

    def test_one_and_two_stops(self):
        for net in ((1, ()), (2, ((0, 1), (1, 0)))):
            self.assert_likeness(True, net, net)


class ErrorsTest(LikenessCase):

    def assert_errors(self, kind, one, other):
        for first, second in ((one, other), (other, one)):
            self.assert_error(kind, alike, one=first, other=second)
            self.assert_error(kind, parting, one=first, other=second)

    def test_unlike_many_stops(self):
        for n, many in itertools.combinations(range(1, 13), 2):
            self.assert_errors(Unfit, ring(n), ring(many))
            self.assert_errors(Unfit, full(n), full(many))

    def test_apart_ahead_of_unlike_many_stops(self):
        for net in loose_nets():
            for n in (1, 2, 5, 12):
                self.assert_errors(Apart, net, full(n))
                self.assert_errors(Apart, net, ring(n))
                self.assert_errors(Apart, net, (n, ((0, 1),)) if n > 1 else ring(3))
            self.assert_errors(Apart, net, net)

    def test_errors_are_of_the_package(self):
        for one in (ring(3), (3, ())):
            with self.assertRaises(SwapError):
                alike(one, ring(4))
        self.assertNotIsInstance(outcome(alike, ring(3), ring(4)), Apart)


class PromisesTest(LikenessCase):
    """What holds by [J4] of nets that are alike."""

    def test_exactly_by_kinds_and_colours(self):
        draw = random.Random("exactly")
        nets = draw.sample(all_joined(4), 60)
        for one, other in itertools.combinations(nets, 2):
            self.assertEqual(alike(one, other), model_of_alike(one, other))

    def test_as_many_ways(self):
        for one, other in itertools.combinations(all_joined(3), 2):
            self.assertEqual(alike(one, other), alike(other, one))
            self.assertEqual(parting(one, other) is None, alike(one, other))
