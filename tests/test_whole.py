"""What the document promises over the whole program, across its modules."""

import math
import random
import unittest

from swapstops import errors
from swapstops.arrows import freeing, spare
from swapstops.coming import bar, bar_holds, comes
from swapstops.counting import come_at, come_count, come_number
from swapstops.desks import Desk, desk_behind
from swapstops.journeys import journey_done, journey_error, steps_of
from swapstops.kinds import kind_of
from swapstops.leading import journey_to
from swapstops.likeness import alike, parting
from swapstops.lots import beat, colours, lots, onward
from swapstops.names import names, names_hold, ratio
from swapstops.nets import net_error
from swapstops.nettexts import net_text, read_net
from swapstops.runs import done, goes, run_error, turns
from swapstops.standings import standing_at, standing_error, standing_number
from swapstops.waves import farthest, fewest_steps
from swapstops.ways import can_come, entries, journey_through
from tests.calls import CallCase, outcome
from tests.drawn import (all_nets, arrows_of, called, drawn_halves, drawn_joined, drawn_nets, drawn_row, drawn_run,
                         drawn_standing, drawn_to, full, net_of, ring, told_nets)
from tests.models import (BOW, FIVES, THETA, all_joined, all_standings, is_odd, model_of_beat, model_of_fewest,
                          model_of_kind, model_of_lots, round_lengths)
from tests.samples import any_values, picture, returned_values


def told_joined(seed):
    """Joined nets of all kinds."""
    yield from [(1, ()), (2, ((0, 1), (1, 0))), BOW, THETA, FIVES[44], FIVES[99]]
    for n in range(3, 13):
        yield ring(n)
        yield full(n)
    yield from drawn_joined(seed, 3)
    yield from drawn_halves(seed, 1)


class TextsAndNumbersTest(unittest.TestCase):
    """[A9]"""

    def test_nets_and_their_texts(self):
        texts = {}
        for net in [*told_nets(), *all_nets(1), *all_nets(2), *all_nets(3), *drawn_nets("texts", 10)]:
            text = net_text(net)
            self.assertEqual(picture(read_net(text)), picture(net))
            self.assertEqual(texts.setdefault(text, net), net)

    def test_standings_and_their_numbers(self):
        for n in (1, 2, 3, 4):
            told = all_standings(n)
            self.assertEqual([standing_at(n, number) for number in range(len(told))], told)
            self.assertEqual([standing_number(n, standing) for standing in told], list(range(len(told))))
        draw = random.Random("numbers")
        for n in range(5, 13):
            for number in [0, n * math.factorial(n + 1) - 1] + [draw.randrange(n * math.factorial(n + 1)) for _ in range(20)]:
                standing = standing_at(n, number)
                self.assertIsNone(standing_error(n, standing))
                self.assertEqual((standing_number(n, standing), standing[1]), (number, number % n))
                self.assertEqual(standing_number(n, (standing[0], 0)) // n, number // n)


class RunsTest(unittest.TestCase):
    """[B4]"""

    def drawn(self, seed):
        draw = random.Random(seed)
        for net in drawn_joined(seed, 3):
            yield draw, net, drawn_run(draw, net, draw.randrange(net[0]), draw.randint(0, 30))

    def test_what_lies_where_is_led_by_the_stops_alone(self):
        for draw, net, run in self.drawn("led"):
            n = net[0]
            moves, row, things = goes(n, run), drawn_row(draw, n), draw.sample(range(n + 1), n + 1)
            behind, stop = done((row, run[0]), run)
            self.assertEqual([behind[moves[place]] for place in range(n + 1)], list(row))
            self.assertEqual(stop, run[-1])
            called_row = tuple(things[thing] for thing in row)
            self.assertEqual(done((called_row, run[0]), run)[0], tuple(things[thing] for thing in behind))
            self.assertEqual((sorted(moves), is_odd(moves)), (list(range(n + 1)), len(run) % 2 == 0))

    def test_two_runs_put_together(self):
        for draw, net, run in self.drawn("together"):
            other = drawn_run(draw, net, run[-1], 9)
            standing = (drawn_row(draw, net[0]), run[0])
            self.assertEqual(done(standing, run + other[1:]), done(done(standing, run), other))

    def test_rounds_through_unlike_stops(self):
        draw = random.Random("rounds")
        for n in range(2, 13):
            for many in range(2, n + 1):
                run = draw.sample(range(n), many)
                run.append(run[0])
                self.assertEqual(turns(n, tuple(run)), many + 1)
                moves = goes(n, tuple(run))
                self.assertEqual([moves[place] for place in [n] + run[:-1]], run[:-1] + [n])
            self.assertEqual(turns(n, (n - 1,)), 1)

    def test_rounds_done_so_often(self):
        for draw, net, run in self.drawn("often"):
            back = drawn_run(draw, net, run[-1], 400)
            round_trip = run + back[1:back.index(run[0]) + 1] if run[0] != run[-1] else run
            many = turns(net[0], round_trip)
            standing = (drawn_row(draw, net[0]), run[0])
            for times in (1, 2, many, many + 1, 10 ** 30, 10 ** 30 - 7):
                rest = times % many
                told = journey_done(standing, ((round_trip, rest),) if rest else ())
                self.assertEqual(journey_done(standing, ((round_trip, times),)), told)
                self.assertEqual(steps_of(((round_trip, times),)), times * (len(round_trip) - 1))
            self.assertEqual(journey_done(standing, ((run[:1], 10 ** 30),)), standing)
            self.assertEqual(journey_done(standing, ((run, 1), (back, 1))), done(done(standing, run), back))


class LotsTest(unittest.TestCase):
    """[C4]"""

    def test_beats_of_lots(self):
        for net in drawn_nets("beats", 6):
            for lot in lots(net):
                self.assertEqual(len({beat(net, stop) for stop in lot}), 1)
                told = round_lengths(net, lot[0], 60)
                self.assertEqual([steps for steps in told if steps % beat(net, lot[0])], [])
                self.assertEqual(beat(net, lot[0]), model_of_beat(net, lot[0]))

    def test_runs_between_colours(self):
        draw = random.Random("colours")
        for net in told_joined("colours"):
            at = {draw.randrange(net[0])}
            first, even, odd = min(at), set(), set()
            for steps in range(80):
                (odd if steps % 2 else even).update(at)
                at = {w for v, w in net[1] if v in at}
            if net[0] > 1 and beat(net, 0) % 2:
                self.assertEqual((even, odd), (set(range(net[0])),) * 2)
            else:
                shades = colours(net)
                self.assertEqual(even, {stop for stop in range(net[0]) if shades[stop] == shades[first]})
                self.assertEqual(odd, set(range(net[0])) - even)

    def test_with_an_arrow_more(self):
        draw = random.Random("more")
        for net in drawn_nets("more", 6):
            if net[0] > 1:
                more = net_of(net[0], net[1] + (draw.choice(arrows_of(net[0])),))
                for stop in range(net[0]):
                    was, told = beat(net, stop), beat(more, stop)
                    self.assertEqual(was % told if told else was, 0)
                for lot in lots(net):
                    self.assertTrue(any(set(lot) <= set(other) for other in lots(more)))

    def test_onward_never_leads_round(self):
        for net in drawn_nets("onward", 6):
            behind = {i: {j for first, j in onward(net) if first == i} for i in range(len(lots(net)))}
            while behind:
                ends = [i for i in behind if not behind[i] & set(behind)]
                self.assertTrue(ends)
                behind = {i: behind[i] for i in behind if i not in ends}


class KindsTest(unittest.TestCase):
    """[D5]"""

    def test_kinds_tell_what_comes(self):
        draw = random.Random("kinds")
        for net in all_joined(3) + all_joined(4)[::30] + [BOW, THETA, full(5), ring(5)]:
            n = net[0]
            found = model_of_fewest(net, drawn_standing(draw, n))
            whole = n * math.factorial(n + 1)
            told = {"all": whole, "half": whole // 2, "ring": n * (n + 1), "five": 600}[kind_of(net)]
            self.assertEqual((len(found), come_count(net)), (told, told))

    def test_for_all_ways_to_call_stops(self):
        draw = random.Random("ways")
        for net in told_joined("ways"):
            stops = draw.sample(range(net[0]), net[0])
            other = called(net, stops)
            self.assertEqual((kind_of(other), come_count(other)), (kind_of(net), come_count(net)))
            (row, stop), (last_row, last) = drawn_standing(draw, net[0]), drawn_standing(draw, net[0])
            pair = []
            for cells, at in ((row, stop), (last_row, last)):
                held = dict(zip(stops, cells))
                pair.append((tuple(held[place] for place in range(net[0])) + cells[-1:], stops[at]))
            self.assertEqual(comes(other, *pair), comes(net, (row, stop), (last_row, last)))

    def test_names_and_ratios(self):
        draw = random.Random("names")
        for net in FIVES[::9]:
            self.assertTrue(names_hold(net, names(net)))
            one, things = drawn_standing(draw, 5), tuple(draw.sample(range(6), 4))
            self.assertEqual(ratio(net, drawn_to(draw, net, one), things), ratio(net, one, things))
            self.assertIn(ratio(net, one, things), (2, 3, 4))

    def test_a_five_with_an_arrow_more(self):
        for net in FIVES[::9]:
            for arrow in arrows_of(5):
                if arrow not in net[1]:
                    self.assertEqual(kind_of(net_of(5, net[1] + (arrow,))), "all")


class OverviewTest(unittest.TestCase):
    """[A2]"""

    def test_each_comes_to_each_but_for_signs_rings_and_fives(self):
        draw = random.Random("each")
        for net in told_joined("each"):
            is_held = net[0] == 1 or net in FIVES or net[0] > 2 and len(net[1]) == net[0]
            one, other = drawn_standing(draw, net[0]), drawn_standing(draw, net[0])
            if not is_held and model_of_beat(net, 0) % 2:
                self.assertTrue(comes(net, one, other))
            elif not is_held:
                self.assertNotEqual(comes(net, one, other), comes(net, one, (other[0][:2][::-1] + other[0][2:], other[1])))
            self.assertEqual(kind_of(net) in ("half", "all"), not is_held)

    def test_a_journey_or_a_paper(self):
        draw = random.Random("either")
        for net in told_joined("either"):
            if net[0] <= 8:
                for _ in range(3):
                    one, other = drawn_standing(draw, net[0]), drawn_standing(draw, net[0])
                    paper, journey = bar(net, one, other), outcome(journey_to, net, one, other)
                    self.assertNotEqual(paper is None, isinstance(journey, errors.Barred))
                    through = outcome(journey_through, net, one, other)
                    self.assertEqual(isinstance(through, errors.NoWay), paper is not None)
                    if paper is None:
                        self.assertIsNone(journey_error(net, through))
                        self.assertEqual((journey_done(one, journey), journey_done(one, through)), (other, other))
                    else:
                        self.assertTrue(bar_holds(net, one, other, journey.paper))

    def test_the_same_by_alike_nets(self):
        draw = random.Random("alike")
        nets = list(told_joined("alike"))
        for one in nets:
            for other in nets:
                if one[0] == other[0] and alike(one, other):
                    first, second = drawn_standing(draw, one[0]), drawn_standing(draw, one[0])
                    self.assertEqual(comes(one, first, second), comes(other, first, second))
                    self.assertEqual(come_count(one), come_count(other))

    def test_freed_nets_let_all_come(self):
        draw = random.Random("freed")
        for net in told_joined("freed"):
            if net[0] > 2 and model_of_kind(net) != "all":
                desk = Desk(net, drawn_standing(draw, net[0]))
                other = drawn_standing(draw, net[0])
                told = comes(net, desk.standing, other)
                self.assertIs(desk.can(other), told)
                desk.put(freeing(net))
                self.assertIs(desk.can(other), True)
                self.assertIn(desk.log[0][1], desk.net[1])
                desk.undo()
                self.assertIs(desk.can(other), told)


def all_calls():
    """A call of each function of the interface, and of some with errors: its name, itself and its arguments."""
    tri, gate, two = ring(3), (3, ((0, 1), (1, 0), (1, 2))), (2, ((0, 1), (1, 0)))
    one, other, far = ((0, 1, 2, 3), 0), ((3, 0, 1, 2), 0), ((0, 1, 3, 2), 0)
    five = ((0, 1, 2, 3, 4, 5), 0)
    journey = (((0, 1, 2, 0), 10 ** 30), ((0, 1), 1))
    return [
        (net_error, tri), (net_error, [3, ()]), (net_text, tri), (read_net, "3: 0>1"), (read_net, "3:"), (read_net, 7),
        (standing_error, 3, one), (standing_error, 3, None), (standing_number, 3, other), (standing_at, 3, 71),
        (standing_at, 3, True), (run_error, tri, (0, 1)), (run_error, tri, [0]), (done, one, (0, 1)), (goes, 3, (0, 1, 2, 0)),
        (turns, 3, (0, 1, 2, 0)), (journey_error, tri, journey), (journey_error, tri, (None,)), (journey_done, one, journey),
        (steps_of, journey), (lots, gate), (onward, gate), (beat, gate, 0), (colours, two), (colours, tri), (colours, gate),
        (kind_of, tri), (kind_of, gate), (names, BOW), (names, tri), (names_hold, BOW, [1]), (ratio, THETA, five, (0, 1, 2, 3)),
        (comes, tri, one, other), (comes, gate, one, other), (bar, tri, one, far), (bar, BOW, five, five),
        (bar_holds, tri, one, far, ("next", 1)), (bar_holds, tri, one, far, [1, {2: 3}]), (come_count, full(12)),
        (come_number, tri, one, other), (come_number, tri, one, far), (come_at, tri, one, 3), (come_at, tri, one, [4]),
        (journey_to, full(3), one, far), (journey_to, tri, one, far), (journey_to, gate, one, far), (fewest_steps, gate, one, far),
        (farthest, gate, one), (entries, gate, one, ((3, 0, 2, 1), 2)), (can_come, gate, one, other),
        (journey_through, gate, one, ((3, 0, 2, 1), 2)), (journey_through, gate, one, far), (alike, tri, full(3)),
        (alike, tri, two), (parting, tri, full(3)), (parting, gate, tri), (freeing, tri), (freeing, two), (spare, full(3)),
        (spare, gate), (Desk, tri, one), (Desk, tri, [one]), (Desk, [tri], one), (desk_behind, tri, one, (("step", 1),)),
        (desk_behind, tri, one, (("step", 1), ["put"])), (desk_behind, tri, one, None),
    ]


class CallsTest(CallCase):
    """[A3]: what is handed in and what is returned never changes, and equal calls get equal results."""

    def test_equal_calls(self):
        told = [picture(outcome(function, *given)) for function, *given in all_calls()]
        again = [picture(outcome(function, *given)) for function, *given in all_calls()[::-1]]
        self.assertEqual(told, again[::-1])

    def test_nothing_changes_later(self):
        calls = all_calls()
        before = picture([given for _, *given in calls])
        found = [outcome(function, *given) for function, *given in calls]
        told = picture(found)
        for function, *given in all_calls():
            outcome(function, *given)
        self.assertEqual(picture(found), told)
        self.assertEqual(picture([given for _, *given in calls]), before)

    def test_nothing_returned_can_be_changed(self):
        for function, *given in all_calls():
            found = outcome(function, *given)
            if isinstance(found, errors.SwapError):
                found = tuple(vars(found).values())
            if not isinstance(found, Desk):
                self.assertNotIn("list", repr(picture(found)).replace("'", " ").split(), function.__name__)
                self.assertNotIn("dict", repr(picture(found)).replace("'", " ").split(), function.__name__)

    def test_each_function_is_called(self):
        called_ones = {function.__name__ for function, *_ in all_calls()}
        self.assertEqual(len(called_ones), 39)

    def test_arguments_that_may_be_any_values(self):
        tri, one = ring(3), ((0, 1, 2, 3), 0)
        calls = [
            (net_error, ()), (read_net, ()), (standing_error, (3,)), (standing_at, (3,)), (run_error, (tri,)),
            (journey_error, (tri,)), (names_hold, (BOW,)), (bar_holds, (tri, one, ((0, 1, 3, 2), 0))), (come_at, (tri, one)),
            (Desk, (tri,)), (desk_behind, (tri, one)),
        ]
        for function, given in calls:
            for make in (any_values, returned_values):
                values = make()
                before = picture(values)
                found = [outcome(function, *given, value) for value in values]
                again = [outcome(function, *given, value) for value in make()]
                self.assertEqual(picture(values), before, function.__name__)
                self.assertEqual(len(found), len(again))
                for first, second in zip(found, again):
                    self.assertIs(type(first), type(second))


class NumbersAndJourneysTest(unittest.TestCase):
    """Numbers, journeys and ways tell the same."""

    def test_to_the_standing_with_a_number(self):
        draw = random.Random("numbers")
        for net in told_joined("numbers"):
            one = drawn_standing(draw, net[0])
            number = draw.randrange(come_count(net))
            other = come_at(net, one, number)
            self.assertTrue(comes(net, one, other) and can_come(net, one, other))
            self.assertEqual(come_number(net, one, other), number)
            if net[0] <= 8:
                self.assertEqual(journey_done(one, journey_to(net, one, other)), other)

    def test_farthest_ones(self):
        draw = random.Random("far")
        for net in drawn_nets("far", 12):
            if net[0] <= 4:
                one = drawn_standing(draw, net[0])
                many, other = farthest(net, one)
                self.assertEqual(fewest_steps(net, one, other), many)
                self.assertGreaterEqual(steps_of(journey_through(net, one, other)), many)
                self.assertEqual(Desk(net, one).can(other), True)

    def test_lots_of_whole_nets(self):
        for net in drawn_nets("whole", 4):
            self.assertEqual(lots(net), model_of_lots(net))
            self.assertEqual(len(lots(net)) == 1, not isinstance(outcome(spare, net), errors.Apart))
            self.assertEqual(len(lots(net)) == 1, not isinstance(outcome(parting, net, net), errors.Apart))
