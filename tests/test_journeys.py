import itertools
import random

from swapstops.journeys import journey_done, journey_error, steps_of
from swapstops.runs import turns
from tests.calls import CallCase
from tests.drawn import all_nets, all_runs, drawn_joined, drawn_row, drawn_run, full, ring, told_nets
from tests.models import model_of_done, step_by_step, turns_one_by_one
from tests.samples import any_values, integers, no_numbers, picture

TRI = (3, ((0, 1), (1, 2), (2, 0)))
MOST = 10 ** 30
ROUND = (0, 1, 2, 0)
LONG = (0, 1, 2) * 333 + (0,)


def wrong_legs():
    """Items that are no legs of TRI, made anew."""
    times = no_numbers() + [times for times in integers() + [MOST + 1, 2 * MOST] if not 1 <= times <= MOST]
    runs = [(), (3,), (0, 2), (0, 0), (0, 1, 0), (-1,), (True,), (False,), (0, True), ((0,),), (None,), [0], [0, 1, 2, 0]]
    runs += ["0", "", None, True, 0, 1, {}, {0: 1}, LONG + (1,), (0, 1, 2) * 334, (0, 1, 2) * 400 + (0,)]
    found = [(ROUND, number) for number in times] + [((1,), number) for number in times]
    found += [((0, 1), number) for number in times]
    found += [(run, 1) for run in runs] + [(run, 5) for run in runs]
    found += [((0, 1), 2), ((0, 1, 2), 2), ((0, 1), MOST), ((1, 2, 0), 4), ((0, 1, 2) * 333, 2)]
    found += [[ROUND, 1], [(1,), 1], {ROUND: 1}, (ROUND,), (ROUND, 1, 1), (ROUND, 1, None), (1, ROUND), (1, 1), ROUND]
    found += [((0, 1), (1, 2)), ((ROUND, 1),), (list(ROUND), 1), ([1], 1), (0, 1), (1,), (), 0, ((0, 1),)]
    return found


def model_of_legs(legs, items):
    """What is to be told of a tuple of few items, legs being all right ones among what they may be."""
    rights = [repr(leg) for leg in legs]
    wrong = [spot for spot, item in enumerate(items) if repr(item) not in rights]
    if wrong:
        return ("leg", wrong[0])
    apart = [spot for spot in range(1, len(items)) if items[spot - 1][0][-1] != items[spot][0][0]]
    return ("apart", apart[0]) if apart else None


def drawn_journey(draw, net, many):
    """A journey of a joined net of so many legs, rounds and others."""
    legs, stop = [], draw.randrange(net[0])
    for _ in range(many):
        run = drawn_run(draw, net, stop, draw.randint(0, 12))
        times = draw.choice([1, 2, 3, draw.randint(4, 90), MOST, MOST - draw.randrange(100)])
        legs.append((run, times if run[0] == run[-1] else 1))
        stop = run[-1]
    return tuple(legs)


class JourneyErrorCase(CallCase):

    def assert_told(self, told, value, net=TRI):
        self.assert_tells(told, journey_error, net=net, value=value)


class FormTest(JourneyErrorCase):

    def test_no_leg(self):
        for net in told_nets():
            self.assert_told(None, (), net)

    def test_as_many_legs_as_can_be(self):
        for leg in (((2,), 1), (ROUND, MOST), ((0, 1, 2, 0), 1)):
            self.assert_told(None, (leg,) * 499)
            self.assert_told(None, (leg,) * 500)
            self.assert_told("form", (leg,) * 501)
        legs = (((0, 1), 1), ((1, 2), 1), ((2, 0), 1)) * 167
        self.assert_told(None, legs[:500])
        self.assert_told("form", legs)
        self.assert_told(("leg", 499), legs[:499] + (None,))
        self.assert_told(("apart", 499), legs[:499] + (((2,), 1),))
        self.assert_told("form", (None,) * 501)

    def test_no_tuple(self):
        for value in any_values():
            if not isinstance(value, tuple) or len(value) > 500:
                self.assert_told("form", value)
        for value in ([], [(ROUND, 1)], {ROUND: 1}, {(ROUND, 1): 1}, {}, "", None, 0, [None]):
            self.assert_told("form", value)


class LegTest(JourneyErrorCase):

    def test_right_legs(self):
        for times in (1, 2, 3, 4, 999, MOST - 1, MOST):
            for run in (ROUND, (0,), (1,), (2,), (1, 2, 0, 1), LONG):
                self.assert_told(None, ((run, times),))
        for run in ((0, 1), (0, 1, 2), (2, 0), (1, 2, 0, 1, 2), LONG[:-1], LONG[1:-1]):
            self.assert_told(None, ((run, 1),))

    def test_wrong_legs(self):
        for leg in wrong_legs():
            self.assert_told(("leg", 0), (leg,))
            self.assert_told(("leg", 1), ((ROUND, 3), leg))
            self.assert_told(("leg", 1), ((ROUND, 3), leg, (ROUND, 3)))

    def test_values_of_all_kinds(self):
        for value in any_values():
            self.assert_told(("leg", 0), (value,))
            self.assert_told(("leg", 1), ((ROUND, 1), value, value))

    def test_the_first_of_several(self):
        for first, second in itertools.permutations(wrong_legs()[::9], 2):
            self.assert_told(("leg", 1), ((ROUND, 1), first, (ROUND, 1), second))

    def test_ahead_of_it_runs_that_do_not_meet(self):
        for leg in wrong_legs():
            self.assert_told(("leg", 2), (((0, 1), 1), ((2, 0), 1), leg))
            self.assert_told(("leg", 3), (((0, 1), 1), ((0, 1), 1), ((0, 1), 1), leg))

    def test_times_of_runs_that_are_no_rounds(self):
        for net in (ring(4), full(5), ring(12)):
            draw = random.Random("no rounds")
            for steps in (1, 2, 3, 6, 50):
                run = drawn_run(draw, net, 1, steps)
                for times in (1, 2, 3, MOST):
                    right = times == 1 or run[0] == run[-1]
                    self.assert_told(None if right else ("leg", 0), ((run, times),), net)

    def test_legs_of_each_short_run(self):
        for net in all_nets(3):
            runs = list(all_runs(net, 3))
            for run in itertools.chain(*[itertools.product(range(3), repeat=many) for many in (1, 2, 3, 4)]):
                self.assertEqual(journey_error(net, ((run, 1),)), None if run in runs else ("leg", 0))


class ApartTest(JourneyErrorCase):

    def test_at_each_spot(self):
        legs = (((0, 1), 1), ((1, 2, 0), 1), (ROUND, 7), ((0,), 2), ((0, 1), 1), ((1, 2), 1), ((2, 0), 1))
        self.assert_told(None, legs)
        for spot in range(1, len(legs)):
            stop = legs[spot][0][0]
            for other in {0, 1, 2} - {stop}:
                leg = ((other,), 1)
                self.assert_told(("apart", spot), legs[:spot] + (leg,) + legs[spot + 1:])
                self.assert_told(("apart", spot), legs[:spot] + (leg,))

    def test_the_first_of_several(self):
        self.assert_told(("apart", 1), (((0, 1), 1), ((0, 1), 1), ((0, 1), 1)))
        self.assert_told(("apart", 2), (((0, 1), 1), ((1, 2), 1), ((0, 1), 1), ((2,), 1)))

    def test_just_the_leg_ahead_counts(self):
        self.assert_told(("apart", 2), (((0, 1), 1), ((1, 2), 1), ((1, 2), 1)))
        self.assert_told(("apart", 1), (((0, 1, 2), 1), ((0, 1), 1)))

    def test_all_short_tuples_of_some_items(self):
        legs = [((0, 1), 1), ((1, 2), 1), ((2,), 9), ((1, 2, 0, 1), MOST), (ROUND, 1)]
        items = legs + [((0, 1), 2), ((2,), 0), ((2,), True), [(2,), 1], (0, 1), None]
        for many in (1, 2, 3):
            for value in itertools.product(items, repeat=many):
                self.assertEqual(picture(journey_error(TRI, value)), picture(model_of_legs(legs, value)), value)

    def test_drawn_journeys(self):
        draw = random.Random("journeys")
        for net in drawn_joined("journeys"):
            self.assert_told(None, drawn_journey(draw, net, draw.randint(1, 8)), net)


class JourneyDoneTest(CallCase):

    def assert_done(self, told, standing, journey):
        self.assert_tells(told, journey_done, standing=standing, journey=journey)

    def test_without_legs(self):
        for n in range(1, 13):
            for stop in range(n):
                standing = (tuple(range(n, -1, -1)), stop)
                self.assert_done(standing, standing, ())

    def test_legs_of_one_stop(self):
        for n in range(1, 13):
            for times in (1, 2, 7, MOST - 1, MOST):
                standing = (tuple(range(n, -1, -1)), n - 1)
                self.assert_done(standing, standing, (((n - 1,), times),))
                self.assert_done(standing, standing, (((n - 1,), times),) * 3)

    def test_runs_done_once(self):
        draw = random.Random("once")
        for net in drawn_joined("once"):
            for steps in (0, 1, 5, 30, 999):
                run = drawn_run(draw, net, 0, steps)
                row = drawn_row(draw, net[0])
                self.assert_done((step_by_step(row, run), run[-1]), (row, 0), ((run, 1),))

    def test_rounds_done_one_by_one(self):
        for net in (TRI, ring(4), full(3), (3, ((0, 1), (0, 2), (1, 0), (2, 0)))):
            for run in [run for run in all_runs(net, 5) if run[0] == run[-1]]:
                first = tuple(range(net[0], -1, -1))
                row = first
                for times in range(1, 14):
                    row = step_by_step(row, run)
                    self.assert_done((row, run[0]), (first, run[0]), ((run, times),))

    def test_times_about_multiples_of_turns(self):
        draw = random.Random("turns")
        for n in range(2, 13):
            for steps in (2, 5, 11, 40):
                run = drawn_run(draw, full(n), 0, steps)
                run = run if run[-1] == 0 else run + (0,)
                many = turns_one_by_one(n, run)
                self.assertEqual(turns(n, run), many)
                row = drawn_row(draw, n)
                once, twice = step_by_step(row, run), step_by_step(step_by_step(row, run), run)
                for times in (many, 10 ** 15 * many, MOST // many * many - 3 * many):
                    self.assert_done((row, 0), (row, 0), ((run, times),))
                    self.assert_done((once, 0), (row, 0), ((run, times + 1),))
                    self.assert_done((twice, 0), (row, 0), ((run, times + 2),))
                    if times > 1:
                        behind, _ = journey_done((row, 0), ((run, times - 1),))
                        self.assertEqual(step_by_step(behind, run), row)

    def test_most_times(self):
        for n in range(1, 13):
            run = tuple(range(n)) + (0,) if n > 1 else (0,)
            many = n + 1 if n > 1 else 1
            row = tuple(range(n + 1))
            told = row
            for _ in range(MOST % many):
                told = step_by_step(told, run)
            self.assert_done((told, 0), (row, 0), ((run, MOST),))
            self.assert_done((told, 0), (row, 0), ((run, MOST - many),) * (1 + many))

    def test_drawn_journeys(self):
        draw = random.Random("legs")
        for net in drawn_joined("legs"):
            for many in (1, 2, 3, 7):
                journey = drawn_journey(draw, net, many)
                standing = (drawn_row(draw, net[0]), journey[0][0][0])
                self.assert_done(model_of_done(standing, journey), standing, journey)

    def test_legs_one_behind_another(self):
        draw = random.Random("behind")
        for net in drawn_joined("behind"):
            journey = drawn_journey(draw, net, 6)
            standing = (drawn_row(draw, net[0]), journey[0][0][0])
            for spot in range(len(journey) + 1):
                half = journey_done(standing, journey[:spot])
                self.assertEqual(journey_done(half, journey[spot:]), journey_done(standing, journey))

    def test_as_many_legs_as_can_be(self):
        legs = (((0, 1), 1), ((1, 2, 0, 1), MOST), ((1, 2), 1), ((2, 0), 1)) * 125
        standing = ((3, 1, 0, 2), 0)
        self.assert_done(model_of_done(standing, legs), standing, legs)
        self.assert_done(standing, standing, ((ROUND, MOST),) * 500)
        self.assert_done(model_of_done(standing, ((ROUND, 2),)), standing, ((ROUND, MOST + 1 - 11),) * 499)


class StepsOfTest(CallCase):

    def assert_steps(self, told, journey):
        self.assert_tells(told, steps_of, journey=journey)

    def test_without_steps(self):
        self.assert_steps(0, ())
        for times in (1, 2, MOST):
            for many in (1, 3, 500):
                self.assert_steps(0, (((2,), times),) * many)

    def test_some(self):
        self.assert_steps(1, (((0, 1), 1),))
        self.assert_steps(3 * MOST, ((ROUND, MOST),))
        self.assert_steps(1500 * MOST, ((ROUND, MOST),) * 500)
        self.assert_steps(3 * 999 * MOST, ((LONG, MOST),) * 3)
        self.assert_steps(3 * 5 + 1 + 2, ((ROUND, 5), ((0, 1), 1), ((1,), 9), ((1, 2, 0), 1)))

    def test_drawn_journeys(self):
        draw = random.Random("steps")
        for net in drawn_joined("steps"):
            journey = drawn_journey(draw, net, 5)
            self.assert_steps(sum(len(run[1:]) * times for run, times in journey), journey)
