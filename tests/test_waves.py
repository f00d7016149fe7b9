import random

from swapstops.coming import comes
from swapstops.waves import farthest, fewest_steps
from swapstops.ways import can_come
from tests.calls import CallCase
from tests.drawn import all_nets, both_ways, drawn_net, drawn_standing, full, ring
from tests.models import all_joined, all_standings, model_of_fewest, standings_behind


def drawn_small(seed, many):
    """Drawn nets of four stops, joined or not, with drawn standings."""
    draw = random.Random(seed)
    for _ in range(many):
        yield drawn_net(draw, 4, draw.randint(0, 12)), drawn_standing(draw, 4)


class FewestStepsTest(CallCase):

    def assert_fewest(self, net, one, others):
        found = model_of_fewest(net, one)
        for other in others:
            self.assert_tells(found.get(other), fewest_steps, net=net, one=one, other=other)

    def test_all_nets_of_up_to_three_stops(self):
        draw = random.Random("three")
        for n in (1, 2, 3):
            told = all_standings(n)
            for net in all_nets(n):
                self.assert_fewest(net, draw.choice(told), told)

    def test_nets_of_four_stops(self):
        draw = random.Random("four")
        told = all_standings(4)
        for net, one in drawn_small("four", 120):
            self.assert_fewest(net, one, draw.sample(told, 8))

    def test_some_of_four_stops_whole(self):
        told = all_standings(4)
        for net in (ring(4), full(4), both_ways(4, [(0, 1), (1, 2), (2, 3)]), (4, ((0, 1), (1, 0), (1, 2), (2, 3), (3, 2)))):
            self.assert_fewest(net, told[100], told[::3])

    def test_to_itself(self):
        for net in [net for n in (1, 2, 3) for net in all_nets(n)]:
            one = all_standings(net[0])[-1]
            self.assert_tells(0, fewest_steps, net=net, one=one, other=one)

    def test_without_arrows(self):
        for n in (1, 2, 3, 4):
            told = all_standings(n)
            for other in told:
                self.assertEqual(fewest_steps((n, ()), told[0], other), 0 if other == told[0] else None)

    def test_just_this_way_round(self):
        one = ((0, 1, 2), 0)
        self.assert_tells(1, fewest_steps, net=(2, ((0, 1),)), one=one, other=((2, 1, 0), 1))
        self.assert_tells(None, fewest_steps, net=(2, ((1, 0),)), one=one, other=((2, 1, 0), 1))
        self.assert_tells(None, fewest_steps, net=(2, ((0, 1),)), one=((2, 1, 0), 1), other=one)


class FarthestTest(CallCase):

    def assert_farthest(self, net, one):
        found = model_of_fewest(net, one)
        told = self.outcome_all_ways(farthest, {"net": net, "one": one})
        self.assertEqual((type(told), len(told)), (tuple, 2))
        many, standing = told
        self.assertIs(type(many), int)
        self.assertEqual(many, max(found.values()))
        self.assertEqual(found[standing], many)

    def test_all_nets_of_up_to_three_stops(self):
        for net in [net for n in (1, 2, 3) for net in all_nets(n)]:
            for one in all_standings(net[0])[::7]:
                self.assert_farthest(net, one)

    def test_nets_of_four_stops(self):
        for net, one in drawn_small("farthest", 120):
            self.assert_farthest(net, one)
        for net in all_joined(4)[::40]:
            self.assert_farthest(net, ((4, 3, 0, 1, 2), 2))

    def test_without_steps(self):
        for n in (1, 2, 3, 4):
            one = all_standings(n)[-1]
            self.assert_tells((0, one), farthest, net=(n, ()), one=one)
            if n > 1:
                self.assert_tells((0, one), farthest, net=(n, tuple((v, n - 1) for v in range(n - 1))), one=one)

    def test_rings(self):
        for n in (3, 4):
            for one in all_standings(n)[::5]:
                many, standing = farthest(ring(n), one)
                self.assertEqual(many, n * (n + 1) - 1)
                self.assertEqual(standings_behind(ring(n), standing), [one])


class PromisesTest(CallCase):
    """What holds by [H2]."""

    def test_none_exactly_if_it_cannot_come(self):
        draw = random.Random("none")
        for net, one in drawn_small("none", 60):
            for other in [*draw.sample(all_standings(4), 8), one, farthest(net, one)[1]]:
                self.assertEqual(fewest_steps(net, one, other) is None, not can_come(net, one, other))

    def test_of_joined_nets_exactly_if_it_does_not_come(self):
        draw = random.Random("joined")
        for net in all_joined(3) + all_joined(4)[::30]:
            told = all_standings(net[0])
            one = draw.choice(told)
            for other in draw.sample(told, 10):
                self.assertEqual(fewest_steps(net, one, other) is None, not comes(net, one, other))

    def test_one_more_than_to_one_ahead(self):
        draw = random.Random("ahead")
        for net, one in [*drawn_small("ahead", 30), (full(3), ((0, 1, 2, 3), 0))]:
            told = all_standings(net[0])
            for other in draw.sample(told, 5) + [farthest(net, one)[1]]:
                many = fewest_steps(net, one, other)
                if many:
                    ahead = [standing for standing in told if other in standings_behind(net, standing)]
                    each = [fewest_steps(net, one, standing) for standing in ahead]
                    self.assertEqual(many, 1 + min(steps for steps in each if steps is not None))
