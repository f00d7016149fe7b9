import math
import random

from swapstops.coming import comes
from swapstops.counting import come_at, come_count, come_number
from swapstops.errors import Apart, SwapError, Unfit
from swapstops.standings import standing_at, standing_number
from tests.calls import CallCase, outcome
from tests.drawn import (both_ways, called, drawn_halves, drawn_joined, drawn_standing, drawn_to, exchanged, full,
                         loose_nets, parted, ring)
from tests.models import BOW, FIVES, THETA, all_joined, all_standings, model_of_fewest, model_of_kind
from tests.samples import any_values, integers, no_numbers, returned_values

LONE, TWO = (1, ()), (2, ((0, 1), (1, 0)))


def model_of_count(net):
    n = net[0]
    many = n * math.factorial(n + 1)
    return {"lone": 1, "ring": n * (n + 1), "five": 600, "half": many // 2, "all": many}[model_of_kind(net)]


def great_nets():
    """Halves, and nets that let all come, of three to twelve stops."""
    yield from [net for net in drawn_joined("great", 3) if model_of_kind(net) in ("half", "all")]
    yield from drawn_halves("great", 2)
    for n in range(3, 13):
        yield full(n)
        yield both_ways(n, [(0, stop) for stop in range(1, n)])
    yield parted(12, (0, 1) * 6)
    yield parted(12, (0,) + (1,) * 11)


class CountingCase(CallCase):

    def assert_numbered(self, net, one, told, many=None):
        """The standings to which one comes are these, which ascend; of all numbers, or of some drawn ones."""
        self.assert_tells(len(told), come_count, net=net)
        numbers = range(len(told)) if many is None else random.Random(many).sample(range(len(told)), many)
        for number in [*numbers, 0, len(told) - 1]:
            self.assert_tells(told[number], come_at, net=net, one=one, value=number)
            self.assert_tells(number, come_number, net=net, one=one, other=told[number])

    def assert_unfit(self, net, one, other):
        self.assert_error(Unfit, come_number, net=net, one=one, other=other)

    def assert_no_number(self, net, one, value):
        self.assert_error(Unfit, come_at, net=net, one=one, value=value)


class CountTest(CountingCase):

    def test_small_joined_nets_by_going_through(self):
        for net in [net for n in (1, 2, 3) for net in all_joined(n)] + all_joined(4)[::25]:
            one = all_standings(net[0])[0]
            self.assert_tells(len(model_of_fewest(net, one)), come_count, net=net)

    def test_all_kinds_and_sizes(self):
        for net in [LONE, TWO, *FIVES, *great_nets(), *drawn_joined("count", 8), *map(ring, range(3, 13))]:
            self.assert_tells(model_of_count(net), come_count, net=net)

    def test_some(self):
        self.assert_tells(12 * math.factorial(13), come_count, net=full(12))
        self.assert_tells(6 * math.factorial(13), come_count, net=parted(12, (0, 1) * 6))
        self.assert_tells(156, come_count, net=ring(12))
        self.assert_tells(6, come_count, net=TWO)
        self.assert_tells(1, come_count, net=LONE)


class NumberTest(CountingCase):

    def test_all_joined_nets_of_up_to_three_stops(self):
        draw = random.Random("three")
        for n in (1, 2, 3):
            told = all_standings(n)
            for net in all_joined(n):
                one = draw.choice(told)
                found = sorted(model_of_fewest(net, one))
                self.assert_numbered(net, one, found)
                for other in told:
                    if other not in found:
                        self.assert_unfit(net, one, other)

    def test_joined_nets_of_four_stops(self):
        draw = random.Random("four")
        told = all_standings(4)
        for net in all_joined(4)[::40] + [ring(4), both_ways(4, [(0, 1), (1, 2), (2, 3)]), parted(4, (0, 1, 1, 0))]:
            one = draw.choice(told)
            found = sorted(model_of_fewest(net, one))
            self.assert_numbered(net, one, found, 12)
            for other in draw.sample(told, 12):
                if other not in found:
                    self.assert_unfit(net, one, other)

    def test_half_of_four_stops_whole(self):
        for net in (parted(4, (0, 0, 1, 1)), both_ways(4, [(0, 1), (0, 2), (0, 3)])):
            for one in (((0, 1, 2, 3, 4), 0), ((1, 0, 2, 3, 4), 0), ((4, 2, 0, 1, 3), 3)):
                found = sorted(model_of_fewest(net, one))
                self.assertEqual(len(found), 240)
                self.assertEqual([come_at(net, one, number) for number in range(240)], found)
                self.assertEqual([come_number(net, one, other) for other in found], list(range(240)))

    def test_nets_of_five_stops(self):
        draw = random.Random("five stops")
        for net in (full(5), parted(5, (0, 1, 0, 0, 1)), both_ways(5, [(0, 1), (1, 2), (2, 3), (3, 4)])):
            one = drawn_standing(draw, 5)
            self.assert_numbered(net, one, sorted(model_of_fewest(net, one)), 60)

    def test_rings(self):
        draw = random.Random("rings")
        for n in range(3, 13):
            for net in (ring(n), called(ring(n), draw.sample(range(n), n))):
                one = drawn_standing(draw, n)
                self.assert_numbered(net, one, sorted(model_of_fewest(net, one)), 12)
                self.assert_unfit(net, one, exchanged(one, 0, 1))
                self.assert_unfit(net, one, (one[0], (one[1] + 1) % n))

    def test_fives(self):
        draw = random.Random("fives")
        for net in [BOW, THETA, *draw.sample(FIVES, 8)]:
            one = drawn_standing(draw, 5)
            found = sorted(model_of_fewest(net, one))
            self.assert_numbered(net, one, found, 12)
            for spot in range(6):
                for other in range(spot):
                    self.assert_unfit(net, one, exchanged(one, spot, other))

    def test_a_five_whole(self):
        one = ((3, 5, 1, 0, 2, 4), 2)
        for net in (BOW, THETA):
            found = sorted(model_of_fewest(net, one))
            self.assertEqual([come_at(net, one, number) for number in range(600)], found)
            self.assertEqual([come_number(net, one, other) for other in found[::7]], list(range(600))[::7])

    def test_a_lone_net(self):
        for one in all_standings(1):
            self.assert_numbered(LONE, one, [one])
        self.assert_unfit(LONE, ((0, 1), 0), ((1, 0), 0))

    def test_two_stops(self):
        for one in all_standings(2):
            self.assert_numbered(TWO, one, sorted(model_of_fewest(TWO, one)))


class GreatNetsTest(CountingCase):
    """Nets whose standings are too many to be gone through."""

    def test_those_between_two_numbers_do_not_come(self):
        draw = random.Random("between")
        for net in great_nets():
            n = net[0]
            one = drawn_standing(draw, n)
            for _ in range(3):
                number = draw.randrange(come_count(net) - 1)
                first, second = come_at(net, one, number), come_at(net, one, number + 1)
                self.assertTrue(comes(net, one, first) and comes(net, one, second))
                self.assertLess(first, second)
                for between in range(standing_number(n, first) + 1, standing_number(n, second)):
                    self.assertFalse(comes(net, one, standing_at(n, between)))

    def test_first_and_last(self):
        draw = random.Random("ends")
        for net in great_nets():
            n, count = net[0], come_count(net)
            one = drawn_standing(draw, n)
            for stop in range(standing_number(n, come_at(net, one, 0))):
                self.assert_unfit(net, one, standing_at(n, stop))
            last = standing_number(n, come_at(net, one, count - 1))
            for number in range(last + 1, n * math.factorial(n + 1)):
                self.assert_unfit(net, one, standing_at(n, number))
            self.assert_tells(count - 1, come_number, net=net, one=one, other=standing_at(n, last))
            for value in (-1, count, count + 1, 10 * count, -count):
                self.assert_no_number(net, one, value)

    def test_nets_that_let_all_come(self):
        draw = random.Random("all")
        for net in great_nets():
            if model_of_kind(net) == "all":
                one, other = drawn_standing(draw, net[0]), drawn_standing(draw, net[0])
                number = standing_number(net[0], other)
                self.assert_tells(number, come_number, net=net, one=one, other=other)
                self.assert_tells(other, come_at, net=net, one=one, value=number)

    def test_halves(self):
        draw = random.Random("halves")
        for net in great_nets():
            n = net[0]
            if model_of_kind(net) == "half":
                one = drawn_standing(draw, n)
                for _ in range(3):
                    other = drawn_to(draw, net, one, draw.randint(0, 60))
                    number = outcome(come_number, net, one, other)
                    self.assert_tells(number, come_number, net=net, one=one, other=other)
                    self.assert_tells(other, come_at, net=net, one=one, value=number)
                    # About half of those that are less come; at most n of those next to it are the odds.
                    self.assertLessEqual(abs(2 * number - standing_number(n, other)), 2 * n)
                    self.assert_unfit(net, one, exchanged(other, 0, 1))


class WrongValuesTest(CountingCase):

    def test_values_of_all_kinds(self):
        for net in (LONE, TWO, ring(3), BOW, full(3), parted(4, (0, 1, 0, 1)), full(12), ring(12)):
            one = (tuple(range(net[0] + 1)), 0)
            count = model_of_count(net)
            right = [value for value in integers() if 0 <= value < count]
            for value in no_numbers() + returned_values() + [count, count + 1, -1, -count]:
                self.assert_no_number(net, one, value)
            for value in integers():
                if value not in right:
                    self.assert_no_number(net, one, value)

    def test_true_is_not_one(self):
        for net in (TWO, ring(3), BOW, full(3), parted(4, (0, 1, 0, 1))):
            one = (tuple(range(net[0] + 1)), 0)
            for number, value in ((0, False), (1, True)):
                self.assertTrue(comes(net, one, come_at(net, one, number)))
                self.assert_no_number(net, one, value)


class ApartTest(CountingCase):

    def test_ahead_of_all(self):
        draw = random.Random("apart")
        for net in [*loose_nets(), (5, BOW[1][1:]), (5, THETA[1][:-1])]:
            one, other = drawn_standing(draw, net[0]), drawn_standing(draw, net[0])
            self.assert_error(Apart, come_count, net=net)
            self.assert_error(Apart, come_number, net=net, one=one, other=one)
            self.assert_error(Apart, come_number, net=net, one=one, other=other)
            for value in (0, 1, -1, 10 ** 30, None, True):
                self.assert_error(Apart, come_at, net=net, one=one, value=value)

    def test_whatever_the_value_is(self):
        for value in any_values():
            self.assert_error(Apart, come_at, net=(2, ((1, 0),)), one=((0, 1, 2), 0), value=value)

    def test_errors_are_of_the_package(self):
        one = ((0, 1, 2), 0)
        for net in (TWO, (2, ())):
            with self.assertRaises(SwapError):
                come_at(net, one, 6)
        self.assertNotIsInstance(outcome(come_at, TWO, one, 6), Apart)


class PromisesTest(CountingCase):
    """What holds by [F4]."""

    def test_there_and_back(self):
        draw = random.Random("back")
        for net in [LONE, TWO, ring(3), ring(12), BOW, THETA, *great_nets()]:
            one = drawn_standing(draw, net[0])
            other = drawn_to(draw, net, one)
            self.assertEqual(come_at(net, one, come_number(net, one, other)), other)
            number = draw.randrange(come_count(net))
            self.assertEqual(come_number(net, one, come_at(net, one, number)), number)

    def test_the_same_from_all_that_come(self):
        draw = random.Random("same")
        for net in [LONE, TWO, ring(3), ring(12), BOW, THETA, *great_nets()]:
            one = drawn_standing(draw, net[0])
            other, third = drawn_to(draw, net, one), drawn_to(draw, net, one, 7)
            number = come_number(net, one, other)
            self.assert_tells(number, come_number, net=net, one=third, other=other)
            self.assert_tells(other, come_at, net=net, one=third, value=number)
            self.assert_tells(number, come_number, net=net, one=other, other=other)
