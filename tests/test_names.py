import itertools
import random

from swapstops.errors import Apart, SwapError, Unfit
from swapstops.names import names, names_hold, ratio
from swapstops.runs import done
from tests.calls import CallCase, outcome
from tests.drawn import all_nets, arrows_of, both_ways, called, drawn_joined, drawn_nets, drawn_row, drawn_run, full, net_of, ring
from tests.models import BOW, FIVES, THETA, model_of_kind
from tests.samples import any_values, integers, no_numbers

BEYOND = 5
RIGHT = ((0, 1, 2, 4, 3, 5), (5, 1, 2, 4, 3, 0), (5, 0, 2, 4, 3, 1), (5, 1, 2, 4, 3, 0), (5, 1, 2, 0, 3, 4))
ORDERS = list(itertools.permutations(range(6)))
STANDING = ((0, 1, 2, 3, 4, 5), 0)
# Nets that are not joined, some of five stops and six arrows.
LOOSE = [
    (2, ()), (2, ((0, 1),)), (5, ()), (12, ()), (5, BOW[1][1:]), (6, BOW[1]), (5, THETA[1][:-1]), (4, ((0, 1), (1, 0))),
    (5, ((0, 1), (0, 2), (0, 3), (1, 2), (2, 0), (3, 4))), (5, ((0, 1), (1, 0), (2, 3), (2, 4), (3, 2), (4, 2))),
]
# Joined nets of the other kinds.
OTHERS = [
    (1, ()), (2, ((0, 1), (1, 0))), ring(3), ring(4), ring(5), ring(12), full(3), full(5), full(6), full(12),
    net_of(5, ring(5)[1] + ((1, 0),)), net_of(5, BOW[1] + ((1, 0),)), net_of(5, THETA[1] + ((4, 0),)),
    both_ways(5, [(0, 1), (1, 2), (2, 3), (3, 4)]), net_of(5, [(0, 1), (1, 2), (2, 3), (3, 0), (0, 4), (4, 0)]),
    net_of(6, BOW[1] + ((0, 5), (5, 0))),
]


def over(above, below):
    """The number whose product with below is above, modulo 5; beyond where 5 divides below."""
    if below % 5 == 0:
        return BEYOND
    return [number for number in range(5) if (number * below - above) % 5 == 0][0]


def bending(a, b, c, d):
    """What a bending makes of the names 0 to 4, and of beyond."""
    return tuple(over(a * x + b, c * x + d) for x in range(5)) + (over(a, c),)


BENDINGS = sorted({
    bending(a, b, c, d) for a, b, c, d in itertools.product(range(5), repeat=4) if (a * d - b * c) % 5 != 0
})


def taken_to(v, place):
    """The place to which a step from v takes what lies at a place."""
    return {v: 5, 5: v}.get(place, place)


def are_right(net, table):
    """Whether a table of names is right names, by the words of the document."""
    known = set(BENDINGS)
    for v, w in net[1]:
        made = {table[v][place]: table[w][taken_to(v, place)] for place in range(6)}
        if tuple(made[name] for name in range(6)) not in known:
            return False
    return True


def bent(row, by):
    return tuple(by[name] for name in row)


def model_of_ratio(table, standing, things):
    """The ratio of four things, by the formula of the document over these names."""
    row, stop = standing
    x, y, z, t = [dict(zip(row, table[stop]))[thing] for thing in things]
    above = [a - b for a, b in ((x, z), (y, t)) if BEYOND not in (a, b)]
    below = [a - b for a, b in ((x, t), (y, z)) if BEYOND not in (a, b)]
    return over(above[0] * (above[1:] + [1])[0], below[0] * (below[1:] + [1])[0])


def drawn_fives(seed, many):
    return random.Random(seed).sample(FIVES, many) + [BOW, THETA]


class ModelTest(CallCase):

    def test_bendings_are_as_the_document_tells(self):
        self.assertEqual(len(BENDINGS), 120)
        self.assertEqual([sorted(made) for made in BENDINGS], [list(range(6))] * 120)
        self.assertEqual(bending(0, 3, 1, 3), (1, 2, 5, 3, 4, 0))

    def test_no_bending_exchanges_just_two_names(self):
        self.assertNotIn(2, [sum(made[name] != name for name in range(6)) for made in BENDINGS])

    def test_right_names_of_the_document(self):
        self.assertTrue(are_right(BOW, RIGHT))
        self.assertFalse(are_right(THETA, RIGHT))


class NamesTest(CallCase):

    def test_right_for_all_fives(self):
        for net in FIVES:
            table = names(net)
            self.assertEqual((type(table), len(table)), (tuple, 5))
            for row in table:
                self.assertIs(type(row), tuple)
                self.assertEqual({type(name) for name in row}, {int})
                self.assertEqual(sorted(row), list(range(6)))
            self.assertTrue(are_right(net, table))

    def test_equal_calls(self):
        for net in FIVES:
            self.assert_tells(names(net), names, net=net)

    def test_fives_called_otherwise_in_all_ways(self):
        for five in (BOW, THETA):
            for stops in itertools.permutations(range(5)):
                net = called(five, stops)
                self.assertTrue(are_right(net, names(net)))


class NamesHoldTest(CallCase):

    def assert_hold(self, told, net, value):
        self.assert_tells(told, names_hold, net=net, value=value)

    def test_names_hold(self):
        for net in FIVES:
            self.assert_hold(True, net, names(net))

    def test_bent_at_each_stop(self):
        draw = random.Random("bent")
        for net in FIVES:
            table = names(net)
            for stop in range(5):
                row = bent(table[stop], draw.choice(BENDINGS))
                self.assert_hold(True, net, table[:stop] + (row,) + table[stop + 1:])
            self.assert_hold(True, net, tuple(bent(row, draw.choice(BENDINGS)) for row in table))

    def test_all_bendings_at_one_stop(self):
        for net in (BOW, THETA):
            table = names(net)
            right = {bent(table[3], made) for made in BENDINGS}
            self.assertEqual(len(right), 120)
            for row in ORDERS:
                self.assertEqual(names_hold(net, table[:3] + (row,) + table[4:]), row in right)

    def test_just_120_rows_of_a_stop_can_be_led_along(self):
        for net in drawn_fives("led", 4):
            count = 0
            for row in ORDERS:
                rows = {0: row}
                while len(rows) < 5:
                    for v, w in net[1]:
                        if v in rows and w not in rows:
                            rows[w] = tuple(rows[v][taken_to(v, place)] for place in range(6))
                table = tuple(rows[stop] for stop in range(5))
                self.assertEqual(names_hold(net, table), are_right(net, table))
                count += names_hold(net, table)
            self.assertEqual(count, 120)

    def test_two_names_of_a_row_exchanged(self):
        for net in drawn_fives("exchanged", 20):
            table = names(net)
            for stop in range(5):
                for first, second in itertools.combinations(range(6), 2):
                    row = list(table[stop])
                    row[first], row[second] = row[second], row[first]
                    self.assert_hold(False, net, table[:stop] + (tuple(row),) + table[stop + 1:])

    def test_two_rows_exchanged(self):
        for net in drawn_fives("rows", 20):
            table = names(net)
            for first, second in itertools.combinations(range(5), 2):
                rows = list(table)
                rows[first], rows[second] = rows[second], rows[first]
                self.assert_hold(are_right(net, rows), net, tuple(rows))
                self.assert_hold(are_right(net, rows[:1] * 5), net, tuple(rows[:1] * 5))

    def test_names_of_other_nets(self):
        for net in drawn_fives("nets", 20):
            for other in drawn_fives("others", 20):
                self.assert_hold(are_right(net, names(other)), net, names(other))

    def test_drawn_tables(self):
        draw = random.Random("tables")
        for net in drawn_fives("tables", 20):
            for _ in range(20):
                table = tuple(drawn_row(draw, 5) for _ in range(5))
                self.assert_hold(are_right(net, table), net, table)

    def test_rows_of_other_names(self):
        for net in drawn_fives("names", 5):
            table = names(net)
            wrong = no_numbers() + [name for name in integers() if not 0 <= name <= 5] + [6, -2]
            for stop in range(5):
                for place in range(6):
                    row = table[stop]
                    for name in wrong + [row[place - 1]]:
                        other = row[:place] + (name,) + row[place + 1:]
                        self.assert_hold(False, net, table[:stop] + (other,) + table[stop + 1:])

    def test_bools_are_no_names(self):
        for stop in range(5):
            for number, name in ((0, False), (1, True)):
                row = tuple(name if other == number else other for other in RIGHT[stop])
                self.assertEqual(row, RIGHT[stop])
                self.assert_hold(False, BOW, RIGHT[:stop] + (row,) + RIGHT[stop + 1:])

    def test_rows_of_other_form(self):
        for net, table in ((BOW, RIGHT), (BOW, names(BOW)), (THETA, names(THETA))):
            for stop in range(5):
                row = table[stop]
                rows = [list(row), row[:-1], row[1:], row + (6,), row + (0,), row + row, (), (row,), dict.fromkeys(row)]
                rows += [str(row), "012345", None, 5, True, tuple((name,) for name in row), tuple([name] for name in row)]
                rows += any_values()
                for other in rows:
                    self.assert_hold(False, net, table[:stop] + (other,) + table[stop + 1:])

    def test_tables_of_other_form(self):
        for net, table in ((BOW, RIGHT), (BOW, names(BOW)), (THETA, names(THETA))):
            for value in (
                list(table), [list(row) for row in table], tuple(list(row) for row in table), table[:-1], table[1:],
                table + table[:1], table + table, table + ((),), (), (table,), [table], dict(enumerate(table)),
                dict.fromkeys(table), table[0], str(table), (table, 5), (5, table), sum(table, ()),
            ):
                self.assert_hold(False, net, value)

    def test_values_of_all_kinds(self):
        for net in (BOW, THETA, FIVES[77]):
            for value in any_values():
                self.assert_hold(False, net, value)
                self.assert_hold(False, net, (value,) * 5)
                self.assert_hold(False, net, ((value,) * 6,) * 5)


class RatioTest(CallCase):

    def assert_ratio(self, told, net, standing, things):
        self.assert_tells(told, ratio, net=net, standing=standing, things=things)

    def test_by_the_formula(self):
        draw = random.Random("formula")
        for net in FIVES:
            table = names(net)
            for _ in range(6):
                standing, things = (drawn_row(draw, 5), draw.randrange(5)), tuple(draw.sample(range(6), 4))
                told = model_of_ratio(table, standing, things)
                self.assertIn(told, (2, 3, 4))
                self.assert_ratio(told, net, standing, things)

    def test_by_the_document_s_names(self):
        for stop in range(5):
            for things in itertools.permutations(range(6), 4):
                standing = ((3, 1, 4, 0, 5, 2), stop)
                self.assert_ratio(model_of_ratio(RIGHT, standing, things), BOW, standing, things)

    def test_the_same_for_all_right_names(self):
        draw = random.Random("same")
        for net in drawn_fives("same", 20):
            table = names(net)
            for stop in range(5):
                standing, things = (drawn_row(draw, 5), stop), tuple(draw.sample(range(6), 4))
                told = ratio(net, standing, things)
                for made in BENDINGS:
                    other = table[:stop] + (bent(table[stop], made),) + table[stop + 1:]
                    self.assertEqual(model_of_ratio(other, standing, things), told)

    def test_it_stays_along_runs(self):
        draw = random.Random("along")
        for net in FIVES:
            standing, things = (drawn_row(draw, 5), draw.randrange(5)), tuple(draw.sample(range(6), 4))
            told = ratio(net, standing, things)
            for steps in (1, 2, 3, 20, 500):
                run = drawn_run(draw, net, standing[1], steps)
                self.assertEqual(ratio(net, done(standing, run), things), told)

    def test_things_in_other_orders(self):
        draw = random.Random("orders")
        for net in drawn_fives("orders", 20):
            standing = (drawn_row(draw, 5), draw.randrange(5))
            x, y, z, t = draw.sample(range(6), 4)
            told = ratio(net, standing, (x, y, z, t))
            for things in ((y, x, t, z), (z, t, x, y), (t, z, y, x)):
                self.assert_ratio(told, net, standing, things)
            for things in ((y, x, z, t), (x, y, t, z)):
                self.assert_ratio(over(1, told), net, standing, things)
            self.assert_ratio((1 - told) % 5, net, standing, (x, z, y, t))
            for things in itertools.permutations((x, y, z, t)):
                self.assert_ratio(model_of_ratio(names(net), standing, things), net, standing, things)

    def test_all_three_come(self):
        for net in (BOW, THETA):
            told = [ratio(net, STANDING, things) for things in itertools.permutations(range(6), 4)]
            self.assertEqual([told.count(number) for number in range(6)], [0, 0, 120, 120, 120, 0])

    def test_three_things_and_a_ratio_tell_a_fourth(self):
        for net in (BOW, THETA):
            for x, y, z in itertools.permutations(range(6), 3):
                told = [ratio(net, STANDING, (x, y, z, t)) for t in range(6) if t not in (x, y, z)]
                self.assertEqual(sorted(told), [2, 3, 4])


class ErrorsTest(CallCase):

    def assert_errors(self, kind, net):
        n = net[0]
        standing = (tuple(range(n + 1)), 0)
        self.assert_error(kind, names, net=net)
        for value in (RIGHT, None, ((0, 1, 2, 3, 4, 5),) * 5):
            self.assert_error(kind, names_hold, net=net, value=value)
        self.assert_error(kind, ratio, net=net, standing=STANDING, things=(0, 1, 2, 3))
        self.assert_error(kind, ratio, net=net, standing=standing, things=(3, 0, 2, 1))

    def test_apart(self):
        for net in LOOSE:
            self.assertIsNone(model_of_kind(net))
            self.assert_errors(Apart, net)
        for n in range(2, 13):
            self.assert_errors(Apart, (n, ()))
            self.assert_errors(Apart, (n, tuple((v, w) for v, w in arrows_of(n) if v < w)))

    def test_unfit(self):
        kinds = {model_of_kind(net) for net in OTHERS}
        self.assertEqual(kinds, {"lone", "ring", "half", "all"})
        for net in OTHERS:
            self.assert_errors(Unfit, net)

    def test_unfit_with_an_arrow_more(self):
        for net in drawn_fives("more", 10):
            for arrow in arrows_of(5):
                if arrow not in net[1]:
                    self.assert_errors(Unfit, net_of(5, net[1] + (arrow,)))

    def test_apart_with_an_arrow_fewer(self):
        for net in drawn_fives("fewer", 10):
            for spot in range(6):
                self.assert_errors(Apart, (5, net[1][:spot] + net[1][spot + 1:]))

    def test_whatever_the_value_is(self):
        for value in any_values():
            for net in ((1, ()), ring(3), full(5), ring(5)):
                self.assert_error(Unfit, names_hold, net=net, value=value)
            for net in LOOSE[:5]:
                self.assert_error(Apart, names_hold, net=net, value=value)

    def test_as_kinds_tell(self):
        for net in [*all_nets(3), *drawn_nets("errors"), *drawn_joined("errors")]:
            told = model_of_kind(net)
            if told != "five":
                self.assertIs(type(outcome(names, net)), Apart if told is None else Unfit)

    def test_are_swap_errors(self):
        for net in ((2, ()), ring(3)):
            with self.assertRaises(SwapError):
                names(net)
