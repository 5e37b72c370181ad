"""[1] and the interface: names, arguments, and where they are defined."""

import inspect
import unittest

from keptholes import compare, copies, errors, files, histories, reasons, spreads, steps, stores, texts, torn
from keptholes.files import File
from keptholes.histories import History
from keptholes.steps import Full, Keep, Script

CLASSES = {
    errors: {
        "HoleError": [], "InvalidFile": ["value=None"], "InvalidNumber": ["value=None"],
        "InvalidScript": ["value=None"], "InvalidList": ["value=None"], "InvalidWrite": ["value=None"],
        "InvalidHistory": ["value=None"], "InvalidContent": ["value=None"], "InvalidText": ["spot=None"],
        "Busy": [], "Closed": [],
    },
    files: {"File": ["cells=''"]},
    steps: {
        "Full": [], "Keep": ["size"], "Lean": ["size"], "Dig": ["size"], "Script": ["steps=None"],
    },
    histories: {"History": ["file", "writes=None"]},
    stores: {"Store": ["file=None"]},
}
FUNCTIONS = {
    reasons: {"reasons": ["script", "cell"]},
    compare: {
        "alike": ["one", "other"], "parting": ["one", "other"], "never_more": ["one", "other"],
        "more_file": ["one", "other"], "exchangeable": ["one", "other"], "needless": ["script"],
        "keeps_holes": ["script"], "keeps_written": ["script"],
    },
    spreads: {
        "spread": ["sizes", "cell"], "rounds_spread": ["one", "other", "rounds", "cell"], "settles": ["one", "other"],
    },
    copies: {
        "copy_moments": ["history", "size", "content", "*", "down=False"],
        "late_block": ["history", "size", "content", "*", "down=False"],
        "copy_count": ["history", "size", "*", "down=False"],
        "copy_at": ["history", "size", "number", "*", "down=False"],
        "copy_number": ["history", "size", "content", "*", "down=False"],
        "sizes_for": ["history", "content", "most", "*", "down=False"],
    },
    torn: {
        "torn_copy": ["history", "size", "first=0", "last=None", "*", "down=False"],
        "holds": ["history", "size", "*", "down=False"], "windows": ["history", "size", "*", "down=False"],
    },
    texts: {
        "write_script": ["script"], "read_script": ["text"], "write_history": ["history"], "read_history": ["text"],
    },
}
PLAYED = {"play": ["file"], "__eq__": None}
METHODS = {
    files.File: {
        "stretches": [], "cut": ["length"], "grown": ["length"], "punched": ["begin", "end", "size"],
        "__len__": None, "__getitem__": None, "__eq__": None, "__iter__": None,
    },
    steps.Full: PLAYED,
    steps.Keep: PLAYED,
    steps.Lean: PLAYED,
    steps.Dig: PLAYED,
    steps.Script: {
        "without": ["k"], "play": ["file"], "traces": ["file"], "__len__": None, "__getitem__": None,
        "__eq__": None, "__iter__": None, "__add__": None, "__mul__": None,
    },
    histories.History: {
        "at": ["t"], "states": [], "part": ["first", "last"], "moments_of": ["content"], "copy": [],
        "__len__": None, "__getitem__": None, "__eq__": None, "__iter__": None, "__iadd__": None,
    },
    stores.Store: {
        "write": ["begin", "text"], "punch": ["begin", "end", "size"], "cut": ["length"], "grow": ["length"],
        "run": ["script"], "back": [], "copier": ["size", "*", "down=False"],
    },
    stores.Copier: {"read": [], "copied": [], "close": [], "__enter__": None, "__exit__": None},
}
PROPERTIES = {
    files.File: ["cells", "content", "room"], steps.Keep: ["size"], steps.Lean: ["size"], steps.Dig: ["size"],
    steps.Script: ["period"], histories.History: ["file"], stores.Store: ["file", "made"],
    stores.Copier: ["taken", "ended", "history"],
}


def parameters(function):
    """All parameters, as they are written."""
    items = list(inspect.signature(function).parameters.values())
    told = [str(item) for item in items]
    by_name = [k for k, item in enumerate(items) if item.kind == item.KEYWORD_ONLY]
    return [*told[:by_name[0]], "*", *told[by_name[0]:]] if by_name else told


def arguments(function):
    """The parameters but the method's own object, as they are written."""
    return parameters(function)[1:]


class Interface(unittest.TestCase):
    def test_each_class_is_defined_in_its_file(self):
        for module, classes in CLASSES.items():
            for name in classes:
                self.assertEqual(getattr(module, name).__module__, module.__name__)
        self.assertEqual(steps.Step.__module__, "keptholes.steps")
        self.assertEqual(stores.Copier.__module__, "keptholes.stores")

    def test_what_each_class_is_made_with(self):
        for module, classes in CLASSES.items():
            for name, told in classes.items():
                if told or module is not errors:
                    self.assertEqual(arguments(getattr(module, name).__init__), told, name)

    def test_each_function_is_defined_in_its_file(self):
        for module, functions in FUNCTIONS.items():
            for name, told in functions.items():
                function = getattr(module, name)
                self.assertTrue(inspect.isfunction(function))
                self.assertEqual((function.__module__, function.__name__), (module.__name__, name))
                self.assertEqual(parameters(function), told, name)

    def test_each_method_stands_in_the_class_itself(self):
        for kind, methods in METHODS.items():
            for name, told in methods.items():
                self.assertIn(name, vars(kind), kind)
                if told is not None:
                    self.assertEqual(arguments(vars(kind)[name]), told, (kind, name))

    def test_each_property_stands_in_the_class_itself(self):
        for kind, names in PROPERTIES.items():
            for name in names:
                self.assertIsInstance(vars(kind)[name], property)

    def test_names_that_do_not_exist(self):
        for call in [
            lambda: File(cell=""), lambda: File("").cut(size=0), lambda: Keep(length=1), lambda: Full(size=1),
            lambda: File("a").punched(0, 1, 1, 1), lambda: Keep(), lambda: History(),
            lambda: History(File(), write=[]), lambda: History(File()).at(moment=0),
            lambda: reasons.reasons(Script(), at=0), lambda: compare.alike(Script(), two=Script()),
            lambda: spreads.settles(5), lambda: spreads.spread([], 0, 0), lambda: stores.Store(cells=""),
            lambda: copies.copy_count(History(File()), 1, up=True),
            lambda: copies.sizes_for(History(File()), "", size=1),
            lambda: torn.holds(History(File()), 1, first=0), lambda: torn.torn_copy(History(File()), 1, 0, 0, True),
            lambda: stores.Store().copier(1, True), lambda: stores.Store().cut(size=0), lambda: texts.read_script(),
        ]:
            with self.assertRaises(TypeError):
                call()
