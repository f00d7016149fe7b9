"""What holds of each call of a function, whatever it tells."""

import unittest

from swapstops.errors import SwapError
from tests.samples import picture


def outcome(function, *places, **names):
    """What a call returns, or the error of the package that it raises."""
    try:
        return function(*places, **names)
    except SwapError as error:
        return error


class CallCase(unittest.TestCase):

    def outcome_all_ways(self, function, given):
        """What a call with these arguments gives: twice by place, and by names in another order."""
        before = picture(list(given.values()))
        first = outcome(function, *given.values())
        told = picture(first)
        self.assertEqual(picture(outcome(function, *given.values())), told, given)
        turned = {name: given[name] for name in reversed(given)}
        self.assertEqual(picture(outcome(function, **turned)), told, given)
        self.assertEqual(picture(list(given.values())), before)
        self.assertEqual(picture(first), told, given)
        return first

    def assert_tells(self, told, function, **given):
        found = self.outcome_all_ways(function, given)
        self.assertEqual(picture(found), picture(told), (function.__name__, given))

    def assert_error(self, kind, function, **given):
        self.assert_error_with({}, kind, function, **given)

    def assert_error_with(self, fields, kind, function, **given):
        found = self.outcome_all_ways(function, given)
        self.assertIs(type(found), kind, (function.__name__, given))
        self.assertEqual(picture(vars(found)), picture(fields), (function.__name__, given))
