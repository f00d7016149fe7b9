import itertools
import math
import random

from swapstops.errors import SwapError, Unfit
from swapstops.standings import standing_at, standing_error, standing_number
from tests.calls import CallCase
from tests.drawn import drawn_standing
from tests.models import all_standings
from tests.samples import any_values, integers, no_numbers, picture


def how_many(n):
    return n * math.factorial(n + 1)


def model_of_pair(n, row, stop):
    """What is to be told of a pair with a row of n + 1 items, by other means than the program's."""
    # The repr tells True from 1.
    rights = [repr(thing) for thing in range(n + 1)]
    told = [repr(item) for item in row]
    wrong = [place for place in range(n + 1) if told[place] not in rights]
    if wrong:
        return ("thing", wrong[0])
    twice = [place for place in range(n + 1) if told.index(told[place]) != place]
    if twice:
        return ("twice", twice[0])
    return None if repr(stop) in rights[:n] else "stop"


def model_of_number(n, standing):
    row, stop = standing
    lesser = [sum(other < row[place] for other in row[place:]) for place in range(n + 1)]
    return n * sum(many * math.factorial(n - place) for place, many in enumerate(lesser)) + stop


def wrong_things(n):
    """Items that are no things of n stops, made anew."""
    return no_numbers() + [thing for thing in integers() + [n + 1, n + 2, -2] if not 0 <= thing <= n]


def wrong_stops(n):
    return no_numbers() + [stop for stop in integers() + [n, n + 1, -2] if not 0 <= stop < n]


class StandingErrorCase(CallCase):

    def assert_told(self, told, n, value):
        self.assert_tells(told, standing_error, n=n, value=value)


class StandingErrorTest(StandingErrorCase):

    def test_standings(self):
        draw = random.Random("standings")
        for n in range(1, 13):
            row = tuple(range(n + 1))
            for stop in range(n):
                self.assert_told(None, n, (row, stop))
                self.assert_told(None, n, (row[::-1], stop))
                self.assert_told(None, n, drawn_standing(draw, n))

    def test_all_standings_of_few_stops(self):
        for n in (1, 2, 3):
            for standing in all_standings(n):
                self.assert_told(None, n, standing)

    def test_form_of_no_pair(self):
        row = (0, 1, 2)
        for value in any_values():
            self.assert_told("form", 2, value)
        for value in ((row,), (row, 0, 1), row, [row, 0], (0, row), {row: 0}, {0: row, 1: 0}, ((row, 0),), (row, 0, None)):
            self.assert_told("form", 2, value)

    def test_form_of_no_row(self):
        for row in any_values():
            if not isinstance(row, tuple) or len(row) != 6:
                self.assert_told("form", 5, (row, 0))
        for n in range(1, 13):
            row = tuple(range(n + 1))
            for other in (list(row), row[1:], row[:-1], row + (n + 1,), row + row, (), (row,), dict.fromkeys(row), str(row)):
                self.assert_told("form", n, (other, 0))

    def test_form_ahead_of_all(self):
        for row in ((), (0,), (None, None), (0, 0, 0, 0), (9, 9), [0, 0, 9]):
            self.assert_told("form", 2, (row, 9))
        self.assert_told("form", 2, ((9, 9, 9), 9, 9))

    def test_things_at_each_place(self):
        for n in (1, 2, 5, 12):
            row = tuple(range(n, -1, -1))
            for place in range(n + 1):
                for thing in wrong_things(n):
                    self.assert_told(("thing", place), n, (row[:place] + (thing,) + row[place + 1:], 0))

    def test_the_first_thing_of_several(self):
        for first, second in itertools.permutations(wrong_things(4)[::4], 2):
            self.assert_told(("thing", 1), 4, ((0, first, 2, second, 4), 0))
            self.assert_told(("thing", 0), 4, ((first, 1, second, second, first), 9))

    def test_thing_ahead_of_twice(self):
        for thing in wrong_things(3):
            self.assert_told(("thing", 3), 3, ((0, 0, 0, thing), 0))
            self.assert_told(("thing", 2), 3, ((1, 1, thing, 1), thing))
        self.assert_told(("thing", 1), 3, ((1, True, 2, 3), 0))
        self.assert_told(("thing", 0), 3, ((False, 0, 2, 3), 0))

    def test_twice_at_each_place(self):
        for n in (1, 2, 5, 12):
            row = tuple(range(n, -1, -1))
            for first, place in itertools.combinations(range(n + 1), 2):
                doubled = row[:place] + row[first:first + 1] + row[place + 1:]
                self.assert_told(("twice", place), n, (doubled, 0))
                self.assert_told(("twice", place), n, (doubled, n))

    def test_the_first_twice_of_several(self):
        self.assert_told(("twice", 1), 3, ((0, 0, 0, 0), 0))
        self.assert_told(("twice", 2), 3, ((0, 1, 1, 0), 0))
        self.assert_told(("twice", 2), 3, ((0, 1, 0, 1), 0))
        self.assert_told(("twice", 3), 4, ((4, 3, 2, 3, 4), 0))

    def test_stops(self):
        for n in range(1, 13):
            row = tuple(range(n + 1))
            for stop in wrong_stops(n):
                self.assert_told("stop", n, (row, stop))

    def test_stop_behind_all(self):
        for stop in wrong_stops(2):
            self.assert_told(("thing", 0), 2, ((3, 1, 1), stop))
            self.assert_told(("twice", 2), 2, ((2, 1, 1), stop))

    def test_all_rows_of_some_items(self):
        items = [0, 1, 2, 3, -1, True, None, "0", (0,), [1]]
        for row in itertools.product(items, repeat=3):
            for stop in (0, 1, 2, True, None):
                found = standing_error(2, (row, stop))
                self.assertEqual(picture(found), picture(model_of_pair(2, row, stop)), (row, stop))


class NumbersTest(CallCase):

    def assert_number(self, n, standing, number):
        self.assert_tells(number, standing_number, n=n, standing=standing)
        self.assert_tells(standing, standing_at, n=n, value=number)

    def test_all_standings_of_few_stops_in_order(self):
        for n in (1, 2, 3):
            standings = all_standings(n)
            self.assertEqual(len(standings), how_many(n))
            for number, standing in enumerate(standings):
                self.assert_number(n, standing, number)

    def test_all_standings_of_four_and_five_stops(self):
        for n in (4, 5):
            for number, standing in enumerate(all_standings(n)):
                self.assertEqual(standing_number(n, standing), number)
                self.assertEqual(standing_at(n, number), standing)

    def test_the_first_and_the_last(self):
        for n in range(1, 13):
            row = tuple(range(n + 1))
            for stop in range(n):
                self.assert_number(n, (row, stop), stop)
                self.assert_number(n, (row[::-1], stop), how_many(n) - n + stop)

    def test_drawn_ones(self):
        draw = random.Random("numbers")
        for n in range(1, 13):
            for _ in range(20):
                standing = drawn_standing(draw, n)
                self.assert_number(n, standing, model_of_number(n, standing))
                number = draw.randrange(how_many(n))
                standing = standing_at(n, number)
                self.assertIsNone(standing_error(n, standing))
                self.assert_number(n, standing, number)

    def test_numbers_ascend_as_standings_do(self):
        draw = random.Random("ascend")
        for n in range(4, 13):
            standings = sorted(drawn_standing(draw, n) for _ in range(60))
            numbers = [standing_number(n, standing) for standing in standings]
            self.assertEqual(numbers, sorted(numbers))

    def test_neighbours(self):
        draw = random.Random("neighbours")
        for n in range(2, 13):
            for _ in range(10):
                number = draw.randrange(how_many(n) - 1)
                self.assertLess(standing_at(n, number), standing_at(n, number + 1))
                self.assertEqual(standing_at(n, number)[1], number % n)
                row = standing_at(n, number)[0]
                self.assertEqual(standing_at(n, number // n * n), (row, 0))


class UnfitTest(CallCase):

    def assert_unfit(self, n, value):
        self.assert_error(Unfit, standing_at, n=n, value=value)

    def test_is_a_swap_error(self):
        with self.assertRaises(SwapError):
            standing_at(1, 2)

    def test_numbers_beyond(self):
        for n in range(1, 13):
            many = how_many(n)
            for value in (-1, -2, -n, -many, many, many + 1, 2 * many, 10 ** 399, -10 ** 399, 10 ** 400 - 1, 1 - 10 ** 400):
                self.assert_unfit(n, value)

    def test_no_numbers(self):
        for n in (1, 2, 12):
            for value in no_numbers():
                self.assert_unfit(n, value)
            for value in ((tuple(range(n + 1)), 0), [0], {0: 0}, "0", "1", True, False, None):
                self.assert_unfit(n, value)
