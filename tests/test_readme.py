import doctest
import pathlib
import unittest

README = pathlib.Path(__file__).resolve().parent.parent / "README.md"


class ReadmeTest(unittest.TestCase):

    def test_what_it_shows_is_so(self):
        result = doctest.testfile(str(README), module_relative=False, verbose=False)
        self.assertEqual(result.failed, 0)
        self.assertGreater(result.attempted, 10)
