import unittest

from swapstops import bounds

TOLD = {
    "MAX_STOPS": 12,
    "MAX_LED": 8,
    "MAX_FEW": 4,
    "MAX_RUN": 1000,
    "MAX_LEGS": 500,
    "MAX_TIMES": 1000000000000000000000000000000,
    "MAX_EDITS": 40,
}


class BoundsTest(unittest.TestCase):

    def test_values(self):
        for name, worth in TOLD.items():
            with self.subTest(name=name):
                self.assertEqual(getattr(bounds, name), worth)

    def test_each_is_an_int_and_no_bool(self):
        for name in TOLD:
            with self.subTest(name=name):
                self.assertIs(type(getattr(bounds, name)), int)
