"""The interface: each name stands in its file, with the arguments that are listed."""

import inspect
import unittest

from deedstore import histories, kinds, logged, machines, stores, trees

FUNCTIONS = (
    (trees, "write_tree", ["tree"]),
    (trees, "read_tree", ["text"]),
    (kinds, "kind_of", ["e", "columns", "variables"]),
    (histories, "straight", ["history"]),
)

METHODS = {
    (stores, "Store"): {
        "thing": ["word"], "row": ["table", "number"], "rows": ["word"], "copy": [], "begin": [], "commit": [],
        "rollback": [], "look": [], "add_sequence": ["thing"], "number": ["sequence"], "following": ["sequence"],
        "put": ["table", "sets"], "fill": ["table", "sets", "source", "c"], "change": ["table", "sets", "c"],
        "take": ["table", "c"], "mark": [], "undo": ["k"], "free": ["k"], "__eq__": ["other"],
    },
    (logged, "LoggedStore"): {"checkpoint": []},
    (logged, "TimedStore"): {"behind": ["n"], "cause": ["table", "number", "column"]},
}
PROPERTIES = {
    (stores, "Store"): ("tables", "sequences", "views", "programs", "journal", "commits"),
    (logged, "LoggedStore"): ("log",),
}


class InterfaceTest(unittest.TestCase):
    def has_parameters(self, function, names):
        found = inspect.signature(function).parameters
        self.assertEqual(list(found), names)
        for parameter in found.values():
            self.assertEqual(parameter.kind, parameter.POSITIONAL_OR_KEYWORD, function)
            self.assertIs(parameter.default, parameter.empty, function)

    def test_functions(self):
        for module, name, parameters in FUNCTIONS:
            function = getattr(module, name)
            self.assertTrue(inspect.isfunction(function), name)
            self.assertEqual(function.__module__, module.__name__, name)
            self.has_parameters(function, parameters)

    def test_methods_stand_in_their_classes(self):
        for (module, name), methods in METHODS.items():
            made = getattr(module, name)
            self.assertEqual(made.__module__, module.__name__)
            for method, parameters in methods.items():
                self.has_parameters(vars(made)[method], ["self"] + parameters)

    def test_properties(self):
        for (module, name), words in PROPERTIES.items():
            for word in words:
                self.assertIsInstance(vars(getattr(module, name))[word], property)

    def test_class_methods_and_static_methods(self):
        self.assertIsInstance(vars(stores.Store)["of"], classmethod)
        self.assertIsInstance(vars(logged.LoggedStore)["recovered"], classmethod)
        self.assertIsInstance(vars(logged.LoggedStore)["joined"], staticmethod)
        self.has_parameters(logged.LoggedStore.recovered, ["text"])
        self.has_parameters(logged.LoggedStore.joined, ["old", "new"])
        self.assertEqual(str(inspect.signature(stores.Store.of)), "(*things)")

    def test_many_things_and_words(self):
        self.assertEqual(str(inspect.signature(stores.Store.make)), "(self, *things)")
        self.assertEqual(str(inspect.signature(stores.Store.drop)), "(self, *words)")

    def test_run(self):
        self.assertEqual(str(inspect.signature(machines.run)), "(store, procedure, *args, most=100000)")
        self.assertEqual((machines.run.__module__, machines.Outcome.__module__), ("deedstore.machines",) * 2)

    def test_classes(self):
        self.assertEqual(vars(stores.Store)["MOST"], 100000)
        for name in ("LoggedStore", "TimedStore", "LoggedTimedStore"):
            self.assertEqual(getattr(logged, name).__module__, "deedstore.logged")


if __name__ == "__main__":
    unittest.main()
