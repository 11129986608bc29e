"""The interface: each name stands in its file, with the arguments that are listed."""

import inspect
import unittest

from deedstore import kinds, trees

FUNCTIONS = (
    (trees, "write_tree", ["tree"]),
    (trees, "read_tree", ["text"]),
    (kinds, "kind_of", ["e", "columns", "variables"]),
)


class InterfaceTest(unittest.TestCase):
    def test_functions(self):
        for module, name, parameters in FUNCTIONS:
            function = getattr(module, name)
            self.assertTrue(inspect.isfunction(function), name)
            self.assertEqual(function.__module__, module.__name__, name)
            found = inspect.signature(function).parameters
            self.assertEqual(list(found), parameters)
            for parameter in found.values():
                self.assertEqual(parameter.kind, parameter.POSITIONAL_OR_KEYWORD, name)
                self.assertIs(parameter.default, parameter.empty, name)


if __name__ == "__main__":
    unittest.main()
