"""[1] and the interface: names, arguments, and where they are defined."""

import inspect
import unittest

from keptholes import errors, files, steps
from keptholes.files import File
from keptholes.steps import Full, Keep

CLASSES = {
    errors: {
        "HoleError": [], "InvalidFile": ["value=None"], "InvalidNumber": ["value=None"],
        "InvalidScript": ["value=None"], "InvalidList": ["value=None"], "InvalidWrite": ["value=None"],
        "InvalidHistory": ["value=None"], "InvalidContent": ["value=None"], "InvalidText": ["spot=None"],
        "Busy": [], "Closed": [],
    },
    files: {"File": ["cells=''"]},
    steps: {
        "Full": [], "Keep": ["size"], "Lean": ["size"], "Dig": ["size"], "Script": ["steps=None"],
    },
}
PLAYED = {"play": ["file"], "__eq__": None}
METHODS = {
    files.File: {
        "stretches": [], "cut": ["length"], "grown": ["length"], "punched": ["begin", "end", "size"],
        "__len__": None, "__getitem__": None, "__eq__": None, "__iter__": None,
    },
    steps.Full: PLAYED,
    steps.Keep: PLAYED,
    steps.Lean: PLAYED,
    steps.Dig: PLAYED,
    steps.Script: {
        "without": ["k"], "play": ["file"], "traces": ["file"], "__len__": None, "__getitem__": None,
        "__eq__": None, "__iter__": None, "__add__": None, "__mul__": None,
    },
}
PROPERTIES = {
    files.File: ["cells", "content", "room"], steps.Keep: ["size"], steps.Lean: ["size"], steps.Dig: ["size"],
    steps.Script: ["period"],
}


def arguments(function):
    """The parameters but the method's own object, as they are written."""
    return [str(item) for item in inspect.signature(function).parameters.values()][1:]


class Interface(unittest.TestCase):
    def test_each_class_is_defined_in_its_file(self):
        for module, classes in CLASSES.items():
            for name in classes:
                self.assertEqual(getattr(module, name).__module__, module.__name__)
        self.assertEqual(steps.Step.__module__, "keptholes.steps")

    def test_what_each_class_is_made_with(self):
        for module, classes in CLASSES.items():
            for name, told in classes.items():
                if told or module is not errors:
                    self.assertEqual(arguments(getattr(module, name).__init__), told, name)

    def test_each_method_stands_in_the_class_itself(self):
        for kind, methods in METHODS.items():
            for name, told in methods.items():
                self.assertIn(name, vars(kind), kind)
                if told is not None:
                    self.assertEqual(arguments(vars(kind)[name]), told, (kind, name))

    def test_each_property_stands_in_the_class_itself(self):
        for kind, names in PROPERTIES.items():
            for name in names:
                self.assertIsInstance(vars(kind)[name], property)

    def test_names_that_do_not_exist(self):
        for call in [
            lambda: File(cell=""), lambda: File("").cut(size=0), lambda: Keep(length=1), lambda: Full(size=1),
            lambda: File("a").punched(0, 1, 1, 1), lambda: Keep(),
        ]:
            with self.assertRaises(TypeError):
                call()
