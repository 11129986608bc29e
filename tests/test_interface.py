"""The interface: each name stands in its file, with the arguments that are listed."""

import inspect
import unittest

from deedstore import errors, faults, histories, kinds, logged, machines, programs, steppers, stores, trees

FUNCTIONS = (
    (trees, "write_tree", ["tree"]),
    (trees, "read_tree", ["text"]),
    (kinds, "kind_of", ["e", "columns", "variables"]),
    (faults, "faults", ["store"]),
    (histories, "replayed", ["store", "history"]),
    (histories, "is_history", ["store", "history", "after"]),
    (histories, "straight", ["history"]),
    (programs, "fault", ["store", "program"]),
    (programs, "stale", ["store"]),
)

METHODS = {
    (stores, "Store"): {
        "thing": ["word"], "row": ["table", "number"], "rows": ["word"], "copy": [], "begin": [], "commit": [],
        "rollback": [], "look": [], "add_sequence": ["thing"], "number": ["sequence"], "following": ["sequence"],
        "put": ["table", "sets"], "fill": ["table", "sets", "source", "c"], "change": ["table", "sets", "c"],
        "take": ["table", "c"], "mark": [], "undo": ["k"], "free": ["k"], "__eq__": ["other"],
    },
    (logged, "LoggedStore"): {"checkpoint": []},
    (logged, "TimedStore"): {"behind": ["n"], "cause": ["table", "number", "column"]},
    (steppers, "Stepper"): {
        "into": [], "over": [], "out": [], "until": ["program", "place"], "outcome": [], "give_up": [],
    },
}
PROPERTIES = {
    (stores, "Store"): ("tables", "sequences", "views", "programs", "journal", "commits"),
    (logged, "LoggedStore"): ("log",),
    (steppers, "Stepper"): ("frames",),
}
ERRORS = {
    ValueError: {"NoText": ["index"], "BadThing": ["reason", "word"], "BadTree": ["path", "word"], "BadDeed": ["index"], "BadArgs": ["word"]},
    LookupError: {"Known": ["word"], "Unknown": ["word"], "Used": ["word"], "NoMark": ["k"]},
    RuntimeError: {
        "InTransaction": [], "NoTransaction": [], "Busy": [], "NotEnded": [], "Stale": ["word", "place", "fault"],
        "Raised": ["word", "details", "program", "place", "stack", "causes", "history", "trace"],
    },
}


class InterfaceTest(unittest.TestCase):
    def has_parameters(self, function, names):
        found = inspect.signature(function).parameters
        self.assertEqual(list(found), names)
        for parameter in found.values():
            self.assertEqual(parameter.kind, parameter.POSITIONAL_OR_KEYWORD, function)
            self.assertIs(parameter.default, parameter.empty, function)

    def test_functions(self):
        for module, name, parameters in FUNCTIONS:
            function = getattr(module, name)
            self.assertTrue(inspect.isfunction(function), name)
            self.assertEqual(function.__module__, module.__name__, name)
            self.has_parameters(function, parameters)

    def test_methods_stand_in_their_classes(self):
        for (module, name), methods in METHODS.items():
            made = getattr(module, name)
            self.assertEqual(made.__module__, module.__name__)
            for method, parameters in methods.items():
                self.has_parameters(vars(made)[method], ["self"] + parameters)

    def test_properties(self):
        for (module, name), words in PROPERTIES.items():
            for word in words:
                self.assertIsInstance(vars(getattr(module, name))[word], property)

    def test_class_methods_and_static_methods(self):
        self.assertIsInstance(vars(stores.Store)["of"], classmethod)
        self.assertIsInstance(vars(logged.LoggedStore)["recovered"], classmethod)
        self.assertIsInstance(vars(logged.LoggedStore)["joined"], staticmethod)
        self.has_parameters(logged.LoggedStore.recovered, ["text"])
        self.has_parameters(logged.LoggedStore.joined, ["old", "new"])
        self.assertEqual(str(inspect.signature(stores.Store.of)), "(*things)")

    def test_many_things_and_words(self):
        self.assertEqual(str(inspect.signature(stores.Store.make)), "(self, *things)")
        self.assertEqual(str(inspect.signature(stores.Store.drop)), "(self, *words)")

    def test_run(self):
        self.assertEqual(str(inspect.signature(machines.run)), "(store, procedure, *args, most=100000)")
        self.assertEqual((machines.run.__module__, machines.Outcome.__module__), ("deedstore.machines",) * 2)

    def test_stepper(self):
        self.assertEqual(str(inspect.signature(steppers.Stepper)), "(store, procedure, *args, most=100000)")
        self.assertEqual(steppers.Stepper.__module__, "deedstore.steppers")

    def test_attributes_are_set_when_an_object_is_created(self):
        store = stores.Store.of(("program", ("procedure", "p", (), ("block", None, (), (), (), ()))))
        store.begin()
        self.assertEqual(vars(steppers.Stepper(store, "p"))["at"], ("p", ()))
        self.assertEqual(set(vars(machines.Outcome(1, 2, 3))), {"results", "history", "trace"})

    def test_errors(self):
        for base, made in ERRORS.items():
            for name, fields in made.items():
                error = getattr(errors, name)
                self.assertEqual((error.__bases__, error.__module__), ((base,), "deedstore.errors"))
                values = [[k] for k in range(len(fields))]
                for found in (error(*values), error(**dict(zip(fields, values)))):
                    for field, passed in zip(fields, values):
                        self.assertIs(getattr(found, field), passed)
        named = [x for x in vars(errors).values() if inspect.isclass(x)]
        self.assertEqual(len(named), sum(map(len, ERRORS.values())))

    def test_classes(self):
        self.assertEqual(vars(stores.Store)["MOST"], 100000)
        for name in ("LoggedStore", "TimedStore", "LoggedTimedStore"):
            self.assertEqual(getattr(logged, name).__module__, "deedstore.logged")


if __name__ == "__main__":
    unittest.main()
