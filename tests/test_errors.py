import copy
import unittest

from swapstops import errors
from swapstops.errors import SwapError
from tests.samples import any_values, picture

BARE = ["Unfit", "BadText", "Apart", "TooManyEdits", "NothingToUndo", "NothingToRedo"]
KEEPING = {
    "Barred": "paper",
    "NoWay": "entries",
    "BadNet": "error",
    "BadStanding": "error",
    "NoVersion": "given",
    "BadLog": "place",
}


def class_of(name):
    return getattr(errors, name)


def one_of_each():
    bare = {name: class_of(name)() for name in BARE}
    return {**bare, **{name: class_of(name)(7) for name in KEEPING}}


class ClassesTest(unittest.TestCase):

    def test_base_of_all_is_a_value_error(self):
        self.assertEqual(SwapError.__bases__, (ValueError,))

    def test_only_base_is_swap_error(self):
        for name in BARE + list(KEEPING):
            with self.subTest(name=name):
                self.assertEqual(class_of(name).__bases__, (SwapError,))

    def test_each_is_of_its_class_and_of_no_other(self):
        for name, error in one_of_each().items():
            for other in BARE + list(KEEPING):
                with self.subTest(name=name, other=other):
                    self.assertEqual(isinstance(error, class_of(other)), name == other)

    def test_each_is_a_swap_error_and_a_value_error(self):
        for name, error in one_of_each().items():
            with self.subTest(name=name):
                self.assertIsInstance(error, SwapError)
                self.assertIsInstance(error, ValueError)

    def test_each_can_be_raised_and_caught(self):
        for name, error in one_of_each().items():
            for caught in (class_of(name), SwapError, ValueError):
                with self.subTest(name=name, caught=caught):
                    with self.assertRaises(caught) as told:
                        raise error
                    self.assertIs(told.exception, error)


class KeepingTest(unittest.TestCase):

    def test_by_place_the_very_value_is_kept(self):
        for name, field in KEEPING.items():
            for value in any_values():
                self.assertIs(getattr(class_of(name)(value), field), value, name)

    def test_by_name_the_very_value_is_kept(self):
        for name, field in KEEPING.items():
            for value in any_values():
                error = class_of(name)(**{field: value})
                self.assertIs(getattr(error, field), value, name)

    def test_nothing_else_is_kept(self):
        for name, error in one_of_each().items():
            with self.subTest(name=name):
                self.assertEqual(vars(error), {KEEPING[name]: 7} if name in KEEPING else {})

    def test_two_errors_keep_each_its_own(self):
        for name, field in KEEPING.items():
            values = any_values()
            made = [class_of(name)(value) for value in values]
            for error, value in zip(made, values):
                self.assertIs(getattr(error, field), value, name)

    def test_what_is_passed_is_as_it_was(self):
        for name in KEEPING:
            for value in any_values():
                before = picture(value)
                class_of(name)(value)
                self.assertEqual(picture(value), before, name)

    def test_words_can_be_told_of_each_value(self):
        for name in KEEPING:
            for value in any_values() + [10 ** 5000]:
                self.assertIsInstance(str(class_of(name)(value)), str)

    def test_an_argument_is_asked_for(self):
        for name in KEEPING:
            with self.subTest(name=name):
                with self.assertRaises(TypeError):
                    class_of(name)()
                with self.assertRaises(TypeError):
                    class_of(name)(1, 2)
                with self.assertRaises(TypeError):
                    class_of(name)(other=1)

    def test_copies_keep_the_same(self):
        for name, error in one_of_each().items():
            with self.subTest(name=name):
                self.assertEqual(picture(copy.deepcopy(error)), picture(error))
        for name, field in KEEPING.items():
            error = class_of(name)(**{field: [1, (2,)]})
            self.assertEqual(picture(copy.deepcopy(error)), picture(error))
