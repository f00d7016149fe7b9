import unittest

from swapstops import errors
from tests.examples import told_examples
from tests.samples import picture


def outcome(line, names):
    """What a line gives, in the way in which the document tells it."""
    try:
        return repr(eval(line, names))
    except errors.SwapError as error:
        return f"raises {type(error).__name__}({', '.join(map(repr, vars(error).values()))})"


class ExamplesTest(unittest.TestCase):

    def test_examples_of_the_document(self):
        # Names that were set once stay set.
        names = {}
        for line, told in told_examples():
            if told is None:
                exec(line, names)
                continue
            with self.subTest(line=line):
                before = {name: picture(names[name]) for name in names if isinstance(names[name], tuple)}
                self.assertEqual(outcome(line, names), told)
                self.assertEqual({name: picture(names[name]) for name in before}, before)

    def test_all_are_there(self):
        told = [line for line, what in told_examples() if what is not None]
        self.assertEqual(len(told), 83)
        self.assertEqual(len([line for line in told if line.startswith("colours(")]), 3)
        raised = [what for _, what in told_examples() if what is not None and what.startswith("raises ")]
        self.assertEqual(len(raised), 29)
