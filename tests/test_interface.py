"""The interface at the end of the document: where its names are defined, and with which parameters."""

import importlib
import inspect
import unittest

LETTERS = "abcdefghijklmnopqrstuvwxyz"

# For each module: each class with the parameters that make it and with its methods and their parameters.
CLASSES = {
    "forms": {
        "Form": (
            f"(letters={LETTERS!r}, chains=1)",
            {"__call__": "(name)", "ordered": "(names)", "__mul__": None, "__rmul__": None, "__floordiv__": None,
             "__eq__": None, "letters": None, "chains": None},
        ),
    },
    "looks": {
        "Look": ("()", {}),
        "Piece": (
            "(folder, form, mark, names, ended)",
            {"folder": None, "form": None, "mark": None, "names": None, "ended": None, "says": "(place)",
             "standing": "()", "__contains__": None, "__eq__": None},
        ),
        "Ask": (
            "(answers)",
            {"answers": None, "says": "(place)", "standing": "()", "__contains__": None, "__eq__": None},
        ),
    },
    "logs": {
        "Log": (
            "(moments=None)",
            {"__len__": None, "__getitem__": None, "__setitem__": None, "__iadd__": None, "__add__": None,
             "__eq__": None, "copy": "()", "says": "(k, place)", "clash": "()", "places": "()", "also": "(k, look)",
             "inserted": "(k, looks)", "joined": "(gap)", "part": "(moments)", "turned": "()"},
        ),
    },
    "rules": {
        "Rules": (
            "(*, across=True, barred=None)",
            {"across": None, "barred": None, "__call__": "(one, other)", "__eq__": None, "__and__": None,
             "__or__": None, "within": "(other)", "turned": "()"},
        ),
    },
    "stories": {
        "Story": (
            "(first, changes=None)",
            {"first": None, "__len__": None, "__getitem__": None, "__iadd__": None, "__eq__": None,
             "__contains__": None, "at": "(k)", "fits": "(log)", "allowed": "(rules)", "turned": "(moments)"},
        ),
    },
    "disks": {
        "Disk": (
            "(first=None, *, form=None, rules=None)",
            {"add": "(place)", "take": "(place)", "rename": "(one, other)", "make": "(changes)", "back": "()",
             "__getitem__": None, "__setitem__": None, "rules": None, "obey": "(rules)", "__contains__": None,
             "__len__": None, "standing": "()", "ask": "(places)", "log": None, "made": None, "story": "()",
             "reader": "(folder, *, most=1, mark=None, steady=False)", "whole": "(folder, *, most=1)", "copy": "()"},
        ),
        "Reader": (
            None,
            {"mark": None, "told": None, "ended": None, "read": "()", "close": "()", "__enter__": "()",
             "__exit__": "(kind, value, trace)"},
        ),
    },
    "errors": {
        "BetweenError": (None, {}),
        "InvalidName": ("(value=None)", {}),
        "InvalidPlace": ("(value=None)", {}),
        "InvalidForm": ("(value=None)", {}),
        "InvalidLook": ("(value=None)", {}),
        "InvalidLog": ("(value=None)", {}),
        "InvalidRules": ("(value=None)", {}),
        "InvalidDemand": ("(value=None)", {}),
        "InvalidStory": ("(value=None)", {}),
        "InvalidChange": ("(value=None)", {}),
        "InvalidNumber": ("(value=None)", {}),
        "InvalidList": ("(value=None)", {}),
        "InvalidText": ("(line=None)", {}),
        "Missing": ("(place=None)", {}),
        "Occupied": ("(place=None)", {}),
        "Barred": ("(one=None, other=None)", {}),
        "Failed": ("(step=None, why=None)", {}),
        "Closed": (None, {}),
    },
}

# For each module: each function with its parameters.
FUNCTIONS = {
    "demands": {"demands": "(log)", "can_be_one": "(one, other, *, rules=None)"},
    "fewest": {
        "fewest": "(log, *, rules=None)",
        "story_of": "(log, *, rules=None)",
        "apart": "(log, *, rules=None)",
        "is_apart": "(log, claim, *, rules=None)",
    },
    "gaps": {"busy": "(log)", "disjoint": "(log)", "story_in": "(log, gaps, *, rules=None)"},
    "sure": {
        "stood": "(log, k, place, *, spare=0, rules=None)",
        "course": "(log, place, *, spare=0, rules=None)",
        "standing": "(log, k, *, spare=0, rules=None)",
    },
    "renamings": {
        "renamed": "(log, gap, one, other, *, spare=0, rules=None)",
        "always_renamed": "(log, one, other, *, rules=None)",
        "sure_renamings": "(log, *, rules=None)",
    },
    "cores": {"core": "(log, *, rules=None)", "is_core": "(log, claim, *, rules=None)"},
    "texts": {
        "write_log": "(log)",
        "read_log": "(text)",
        "write_story": "(story)",
        "read_story": "(text)",
    },
}


def parameters(method):
    """The parameters without the object itself."""
    signature = inspect.signature(method)
    return str(signature.replace(parameters=list(signature.parameters.values())[1:]))


class InterfaceTest(unittest.TestCase):
    def test_classes(self):
        for module_name, classes in CLASSES.items():
            module = importlib.import_module("betweenlists." + module_name)
            for name, (made_with, methods) in classes.items():
                made = getattr(module, name)
                self.assertIsInstance(made, type)
                self.assertEqual(made.__module__, "betweenlists." + module_name)
                if made_with is not None:
                    self.assertEqual(parameters(made.__init__), made_with)
                for method, wanted in methods.items():
                    self.assertIn(method, vars(made))
                    if wanted is not None:
                        self.assertEqual(parameters(vars(made)[method]), wanted)

    def test_functions(self):
        for module_name, functions in FUNCTIONS.items():
            module = importlib.import_module("betweenlists." + module_name)
            for name, wanted in functions.items():
                made = getattr(module, name)
                self.assertTrue(inspect.isfunction(made))
                self.assertEqual(made.__module__, "betweenlists." + module_name)
                self.assertEqual(str(inspect.signature(made)), wanted)
