import itertools
import random

from swapstops.runs import done, goes, run_error, turns
from tests.calls import CallCase
from tests.drawn import all_nets, all_runs, arrows_of, drawn_joined, drawn_row, drawn_run, full, net_of, ring, told_nets
from tests.models import is_odd, place_behind, step_by_step, turns_one_by_one
from tests.samples import any_values, integers, no_numbers, picture

TRI = (3, ((0, 1), (1, 2), (2, 0)))
BOW = (3, ((0, 1), (0, 2), (1, 0), (2, 0)))


def wrong_stops(n):
    """Items that are no stops of a net of n stops, made anew."""
    return no_numbers() + [stop for stop in integers() + [n, n + 1, -2] if not 0 <= stop < n]


def model_of_items(net, items):
    """What is to be told of a tuple of few items, by other means than the program's."""
    # The repr tells True from 1.
    stops = [repr(stop) for stop in range(net[0])]
    wrong = [spot for spot, item in enumerate(items) if repr(item) not in stops]
    if wrong:
        return ("stop", wrong[0])
    loose = [spot for spot in range(1, len(items)) if items[spot - 1:spot + 1] not in net[1]]
    return ("arrow", loose[0]) if loose else None


class RunErrorTest(CallCase):

    def assert_told(self, told, net, value):
        self.assert_tells(told, run_error, net=net, value=value)

    def test_runs_of_one_stop(self):
        for net in told_nets():
            for stop in range(net[0]):
                self.assert_told(None, net, (stop,))

    def test_drawn_runs(self):
        draw = random.Random("runs")
        for net in told_nets():
            for stop in range(net[0]):
                self.assert_told(None, net, drawn_run(draw, net, stop, draw.randint(1, 30)))

    def test_all_short_runs(self):
        for net in all_nets(3):
            for run in all_runs(net, 4):
                self.assertIsNone(run_error(net, run))

    def test_as_long_as_can_be(self):
        draw = random.Random("long")
        for net in (TRI, BOW, ring(12), full(12), full(2)):
            run = drawn_run(draw, net, 0, 1000)
            self.assertEqual(len(run), 1001)
            self.assert_told(None, net, run[:1000])
            self.assert_told(None, net, run[1:])
            self.assert_told("form", net, run)
            self.assert_told("form", net, run * 3)
        self.assert_told(("stop", 999), TRI, (0, 1, 2) * 333 + (3,))
        self.assert_told(("arrow", 999), TRI, (0, 1, 2) * 333 + (1,))

    def test_form(self):
        for net in (TRI, (1, ()), full(12)):
            self.assert_told("form", net, ())
            for value in any_values():
                if not isinstance(value, tuple) or not 1 <= len(value) <= 1000:
                    self.assert_told("form", net, value)
            for value in ([0], [0, 1], [], {0: 1}, {0: 1, 1: 0}, "01", "0", range(2), (9,) * 1001, (None,) * 1001):
                self.assert_told("form", net, value)

    def test_wrong_stops_at_each_spot(self):
        for net in (TRI, full(5), full(12)):
            draw = random.Random("stops")
            run = drawn_run(draw, net, 1, 6)
            for spot in range(len(run)):
                for stop in wrong_stops(net[0]):
                    self.assert_told(("stop", spot), net, run[:spot] + (stop,) + run[spot + 1:])

    def test_stops_of_one_stop(self):
        for stop in wrong_stops(1):
            self.assert_told(("stop", 0), (1, ()), (stop,))
            self.assert_told(("stop", 1), (1, ()), (0, stop))
        self.assert_told(("arrow", 1), (1, ()), (0, 0))

    def test_the_first_wrong_stop_of_several(self):
        for first, second in itertools.permutations(wrong_stops(3)[::4], 2):
            self.assert_told(("stop", 1), TRI, (0, first, 1, second))
            self.assert_told(("stop", 0), TRI, (second, first, second))

    def test_no_arrow_at_each_spot(self):
        for n in range(3, 13):
            net = ring(n)
            run = tuple(spot % n for spot in range(2 * n + 1))
            for spot in range(1, len(run) - 1):
                self.assert_told(("arrow", spot), net, run[:spot] + run[spot - 1:])
                self.assert_told(("arrow", spot), net, run[:spot] + run[spot + 1:])
                self.assert_told(("arrow", spot), net, run[:spot] + ((run[spot] + 1) % n,))

    def test_arrows_lead_one_way(self):
        for n in range(2, 7):
            for v, w in arrows_of(n):
                net = net_of(n, [(v, w)])
                self.assert_told(None, net, (v, w))
                self.assert_told(("arrow", 1), net, (w, v))
                self.assert_told(("arrow", 2), net, (v, w, v))
                self.assert_told(("arrow", 1), net, (v, v))

    def test_the_same_stop_twice(self):
        for n in range(1, 13):
            for stop in range(n):
                self.assert_told(("arrow", 1), full(n), (stop, stop))

    def test_a_bad_stop_ahead_of_arrows(self):
        for stop in wrong_stops(3):
            self.assert_told(("stop", 2), TRI, (0, 0, stop))
            self.assert_told(("stop", 4), TRI, (0, 2, 1, 1, stop))

    def test_all_short_tuples_of_some_items(self):
        items = [0, 1, 2, 3, -1, True, None, (0, 1), [1]]
        for many in (1, 2, 3, 4):
            for value in itertools.product(items, repeat=many):
                found = run_error(TRI, value)
                self.assertEqual(picture(found), picture(model_of_items(TRI, value)), value)

    def test_all_short_tuples_of_stops(self):
        for net in all_nets(3):
            for many in (1, 2, 3, 4):
                for value in itertools.product(range(3), repeat=many):
                    self.assertEqual(run_error(net, value), model_of_items(net, value), (net, value))


def told_runs(seed):
    """Nets and runs of them: all short ones of small nets, longer ones of up to 12 stops."""
    draw = random.Random(seed)
    for net in [*all_nets(2), TRI, BOW, full(3), ring(4)]:
        for run in all_runs(net, 6):
            yield net, run
    for net in drawn_joined(seed):
        for steps in (0, 1, 2, 7, 40, 200, 999):
            yield net, drawn_run(draw, net, draw.randrange(net[0]), steps)


class DoneTest(CallCase):

    def test_beside_exchanges_one_by_one(self):
        draw = random.Random("done")
        for net, run in told_runs("done"):
            row = drawn_row(draw, net[0])
            told = (step_by_step(row, run), run[-1])
            self.assert_tells(told, done, standing=(row, run[0]), run=run)

    def test_by_goes(self):
        draw = random.Random("goes")
        for net, run in told_runs("goes"):
            row = drawn_row(draw, net[0])
            moves = goes(net[0], run)
            behind, stop = done((row, run[0]), run)
            self.assertEqual([behind[moves[place]] for place in range(len(row))], list(row))
            self.assertEqual(stop, run[-1])

    def test_a_run_of_one_stop_leaves_all(self):
        for n in range(1, 13):
            for stop in range(n):
                standing = (tuple(range(n, -1, -1)), stop)
                self.assert_tells(standing, done, standing=standing, run=(stop,))

    def test_at_the_last_stop_nothing_is_exchanged(self):
        self.assert_tells(((2, 1, 0), 1), done, standing=((0, 1, 2), 0), run=(0, 1))
        self.assert_tells(((2, 0, 1), 0), done, standing=((0, 1, 2), 0), run=(0, 1, 0))

    def test_runs_put_together(self):
        draw = random.Random("together")
        for net in drawn_joined("together"):
            row = drawn_row(draw, net[0])
            run = drawn_run(draw, net, draw.randrange(net[0]), 60)
            for spot in range(0, len(run), 7):
                half = done((row, run[0]), run[:spot + 1])
                self.assertEqual(done(half, run[spot:]), done((row, run[0]), run))

    def test_things_called_otherwise_are_led_likewise(self):
        draw = random.Random("otherwise")
        for net in drawn_joined("otherwise"):
            row, things = drawn_row(draw, net[0]), drawn_row(draw, net[0])
            run = drawn_run(draw, net, 0, 25)
            behind, stop = done((row, 0), run)
            self.assertEqual(done((tuple(things[thing] for thing in row), 0), run),
                             (tuple(things[thing] for thing in behind), stop))


class GoesTest(CallCase):

    def test_beside_each_place_by_itself(self):
        for net, run in told_runs("places"):
            n = net[0]
            told = tuple(place_behind(n, run, place) for place in range(n + 1))
            self.assert_tells(told, goes, n=n, run=run)

    def test_odd_exactly_with_an_odd_number_of_steps(self):
        for net, run in told_runs("odd"):
            moves = goes(net[0], run)
            self.assertEqual(sorted(moves), list(range(net[0] + 1)))
            self.assertEqual(is_odd(moves), len(run) % 2 == 0)

    def test_runs_put_together(self):
        draw = random.Random("goes together")
        for net in drawn_joined("goes together"):
            n = net[0]
            run = drawn_run(draw, net, 0, 30)
            for spot in range(0, len(run), 5):
                first, second = goes(n, run[:spot + 1]), goes(n, run[spot:])
                self.assertEqual(goes(n, run), tuple(second[place] for place in first))


class TurnsTest(CallCase):

    def assert_turns(self, n, run):
        many = turns_one_by_one(n, run)
        self.assert_tells(many, turns, n=n, run=run)
        first = (tuple(range(n + 1)), run[0])
        standing = first
        for times in range(1, many + 1):
            standing = done(standing, run)
            self.assertEqual(standing == first, times == many)

    def test_rounds_of_one_stop(self):
        for n in range(1, 13):
            for stop in range(n):
                self.assert_tells(1, turns, n=n, run=(stop,))

    def test_rounds_of_unlike_stops(self):
        draw = random.Random("unlike")
        for n in range(2, 13):
            for many in range(2, n + 1):
                stops = tuple(draw.sample(range(n), many))
                run = stops + stops[:1]
                self.assert_tells(many + 1, turns, n=n, run=run)
                self.assert_turns(n, run)
                moves = goes(n, run)
                self.assertEqual((moves[n], moves[stops[-1]]), (stops[0], n))
                for v, w in itertools.pairwise(stops):
                    self.assertEqual(moves[v], w)

    def test_all_short_rounds(self):
        for net in (TRI, BOW, full(3), ring(4)):
            for run in all_runs(net, 7):
                if run[0] == run[-1]:
                    self.assert_turns(net[0], run)

    def test_drawn_rounds_through_stops_several_times(self):
        draw = random.Random("rounds")
        for n in range(2, 13):
            for steps in (5, 12, 30, 120, 900):
                run = drawn_run(draw, full(n), 0, steps)
                run = run if run[-1] == 0 else run + (0,)
                self.assert_turns(n, run)

    def test_cycles_of_many_lengths(self):
        found = set()
        draw = random.Random("cycles")
        for _ in range(200):
            run = drawn_run(draw, full(12), 3, draw.randint(2, 25))
            run = run if run[-1] == 3 else run + (3,)
            many = turns_one_by_one(12, run)
            self.assertEqual(turns(12, run), many)
            found.add(many)
        self.assertGreater(len(found), 15)
        self.assertGreaterEqual(max(found), 30)

    def test_as_long_as_can_be(self):
        self.assert_turns(3, (0, 1, 2) * 333 + (0,))
        self.assert_turns(2, (0, 1) * 499 + (0,))
