"""The names and arguments of the interface."""

import importlib
import inspect
import unittest

INTERFACE = {
    "rows": {
        "holds": ["row", "filling"], "tidy": ["row"], "added": ["one", "other"], "times": ["row", "number"],
        "cut": ["row", "number"], "sized": ["row"],
    },
    "papers": {"lines": ["rows", "paper"], "shows": ["rows", "paper"]},
    "wishes": {
        "at_least": ["many", "sides"], "at_most": ["many", "sides"], "just": ["many", "sides"], "either": ["sides"],
        "follows": ["one", "other"],
    },
    "finder": {"find": ["unknowns", "rows"], "clash": ["unknowns", "rows"]},
    "worth": {"worth": ["terms", "filling"], "best": ["unknowns", "rows", "terms"]},
    "notes": {"shown": ["row"], "read": ["line"]},
}


class Interface(unittest.TestCase):
    def test_names_and_arguments(self):
        for module, functions in INTERFACE.items():
            found = importlib.import_module("cutpaper." + module)
            for name, arguments in functions.items():
                function = getattr(found, name)
                self.assertTrue(inspect.isfunction(function))
                self.assertEqual(function.__module__, "cutpaper." + module)
                self.assertEqual(list(inspect.signature(function).parameters), arguments)

    def test_arguments_by_their_names(self):
        modules = {name: importlib.import_module("cutpaper." + name) for name in INTERFACE}
        self.assertEqual(modules["finder"].find(unknowns=1, rows=[])[0], "filling")
        self.assertIsNone(modules["finder"].clash(unknowns=1, rows=[]))
        self.assertEqual(modules["worth"].worth(terms=[(2, 0)], filling=[True]), 2)
        self.assertEqual(modules["worth"].best(unknowns=1, rows=[], terms=[(2, 1)])[1:3], ([False], 2))
        self.assertEqual(modules["wishes"].at_most(many=0, sides=[0]), [([(1, 1)], 1)])
        self.assertEqual(modules["wishes"].follows(one=0, other=2), [([(1, 1), (1, 2)], 1)])
        self.assertEqual(modules["notes"].shown(row=modules["notes"].read(line="2 n1 >= 1")), "2 n1 >= 1")


if __name__ == "__main__":
    unittest.main()
