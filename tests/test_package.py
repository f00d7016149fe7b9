"""Where things stand in the package, and those rules of its language that are easily seen."""

import ast
import importlib
import inspect
import pathlib
import unittest

PACKAGE = pathlib.Path(__file__).resolve().parent.parent / "swapstops"

INTERFACE = {
    "errors": [
        "SwapError", "Unfit", "BadText", "Apart", "Barred", "NoWay", "BadNet", "BadStanding",
        "TooManyEdits", "NothingToUndo", "NothingToRedo", "NoVersion", "BadLog",
    ],
    "nets": ["net_error"],
    "nettexts": ["net_text", "read_net"],
    "standings": ["standing_error", "standing_number", "standing_at"],
    "runs": ["run_error", "done", "goes", "turns"],
    "journeys": ["journey_error", "journey_done", "steps_of"],
    "lots": ["lots", "onward", "beat", "colours"],
    "kinds": ["kind_of"],
    "names": ["names", "names_hold", "ratio"],
    "coming": ["comes", "bar", "bar_holds"],
    "counting": ["come_count", "come_number", "come_at"],
    "leading": ["journey_to"],
    "waves": ["fewest_steps", "farthest"],
    "ways": ["entries", "can_come", "journey_through"],
    "likeness": ["alike", "parting"],
    "arrows": ["freeing", "spare"],
    "desks": ["Desk", "desk_behind"],
}

ARGUMENTS = {
    "net_error": ["value"],
    "net_text": ["net"],
    "read_net": ["value"],
    "standing_error": ["n", "value"],
    "standing_number": ["n", "standing"],
    "standing_at": ["n", "value"],
    "run_error": ["net", "value"],
    "done": ["standing", "run"],
    "goes": ["n", "run"],
    "turns": ["n", "run"],
    "journey_error": ["net", "value"],
    "journey_done": ["standing", "journey"],
    "steps_of": ["journey"],
    "lots": ["net"],
    "onward": ["net"],
    "beat": ["net", "stop"],
    "colours": ["net"],
    "kind_of": ["net"],
    "names": ["net"],
    "names_hold": ["net", "value"],
    "ratio": ["net", "standing", "things"],
    "comes": ["net", "one", "other"],
    "bar": ["net", "one", "other"],
    "bar_holds": ["net", "one", "other", "value"],
    "come_count": ["net"],
    "come_number": ["net", "one", "other"],
    "come_at": ["net", "one", "value"],
    "journey_to": ["net", "one", "other"],
    "fewest_steps": ["net", "one", "other"],
    "farthest": ["net", "one"],
    "entries": ["net", "one", "other"],
    "can_come": ["net", "one", "other"],
    "journey_through": ["net", "one", "other"],
    "alike": ["one", "other"],
    "parting": ["one", "other"],
    "freeing": ["net"],
    "spare": ["net"],
    "Desk": ["net", "standing"],
    "desk_behind": ["net", "standing", "log"],
}

# The methods of a desk, each with its arguments; its properties.
METHODS = {
    "step": ["stop"], "put": ["arrow"], "drop": ["arrow"], "can": ["standing"], "undo": [], "redo": [],
    "at": ["version"], "copy": [],
}
PROPERTIES = ["net", "standing", "version", "log"]


def sources():
    return [path for path in sorted(PACKAGE.rglob("*")) if "__pycache__" not in path.parts]


class InterfaceTest(unittest.TestCase):

    def test_each_is_defined_in_its_file(self):
        for module, names in INTERFACE.items():
            tree = ast.parse((PACKAGE / f"{module}.py").read_text(encoding="utf-8"))
            defined = [node.name for node in tree.body if isinstance(node, (ast.FunctionDef, ast.ClassDef))]
            loaded = importlib.import_module(f"swapstops.{module}")
            for name in names:
                with self.subTest(module=module, name=name):
                    self.assertIn(name, defined)
                    self.assertEqual(getattr(loaded, name).__module__, f"swapstops.{module}")

    def test_arguments(self):
        for module, names in INTERFACE.items():
            loaded = importlib.import_module(f"swapstops.{module}")
            for name in names:
                if module == "errors":
                    continue
                with self.subTest(module=module, name=name):
                    arguments = inspect.signature(getattr(loaded, name)).parameters.values()
                    self.assertEqual([argument.name for argument in arguments], ARGUMENTS[name])
                    self.assertEqual({argument.kind.name for argument in arguments}, {"POSITIONAL_OR_KEYWORD"})
                    self.assertEqual({argument.default for argument in arguments}, {inspect.Parameter.empty})


    def test_methods_of_desks_are_their_own(self):
        desk = importlib.import_module("swapstops.desks").Desk
        for name, arguments in METHODS.items():
            with self.subTest(name=name):
                self.assertIn(name, vars(desk))
                told = list(inspect.signature(vars(desk)[name]).parameters.values())[1:]
                self.assertEqual([argument.name for argument in told], arguments)
                self.assertLessEqual({argument.kind.name for argument in told}, {"POSITIONAL_OR_KEYWORD"})
                self.assertLessEqual({argument.default for argument in told}, {inspect.Parameter.empty})
        for name in PROPERTIES:
            self.assertIsInstance(vars(desk)[name], property)
            self.assertIsNone(vars(desk)[name].fset)
        self.assertIn("__eq__", vars(desk))


class RulesTest(unittest.TestCase):

    def test_only_sources(self):
        self.assertIn(PACKAGE / "__init__.py", sources())
        for path in sources():
            self.assertEqual(path.suffix, ".py", path)

    def test_characters_and_sizes(self):
        for path in sources():
            text = path.read_bytes()
            self.assertTrue(all(sign == 10 or 32 <= sign <= 126 for sign in text), path)
            lines = text.decode("ascii").split("\n")
            self.assertLess(len(lines), 400, path)
            self.assertLessEqual(max(len(line) for line in lines), 120, path)

    def test_functions_are_small(self):
        for path in sources():
            for node in ast.walk(ast.parse(path.read_text(encoding="ascii"))):
                if isinstance(node, ast.FunctionDef):
                    self.assertLessEqual(node.end_lineno - node.lineno + 1, 40, (path, node.name))

    def test_imports_are_from_the_package_or_the_named_library(self):
        library = ("heapq", "math", "itertools", "collections")
        for path in sources():
            tree = ast.parse(path.read_text(encoding="ascii"))
            for node in ast.walk(tree):
                self.assertNotIsInstance(node, ast.Import, path)
                if isinstance(node, ast.ImportFrom):
                    self.assertIn(node, tree.body, path)
                    self.assertEqual(node.level, 0, path)
                    self.assertTrue(node.module in library or node.module.startswith("swapstops."), path)
