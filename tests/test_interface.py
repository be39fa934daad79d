"""The interface: each name is defined in its file, with the parameters that the document tells."""

import importlib
import inspect
import unittest

from told_names import FUNCTIONS


class Interface(unittest.TestCase):

    def each_function(self):
        for file, functions in FUNCTIONS.items():
            module = importlib.import_module("onesolid." + file)
            for name, parameters in functions.items():
                yield module, name, parameters

    def test_each_function_is_defined_in_its_file(self):
        for module, name, _ in self.each_function():
            with self.subTest(name):
                function = getattr(module, name)
                self.assertTrue(inspect.isfunction(function))
                self.assertEqual(function.__module__, module.__name__)
                self.assertEqual(function.__name__, name)

    def test_each_function_has_its_parameters(self):
        for module, name, parameters in self.each_function():
            with self.subTest(name):
                found = inspect.signature(getattr(module, name)).parameters
                self.assertEqual(list(found), parameters)
                for parameter in found.values():
                    self.assertEqual(parameter.kind, inspect.Parameter.POSITIONAL_OR_KEYWORD)
                    self.assertIs(parameter.default, inspect.Parameter.empty)


if __name__ == "__main__":
    unittest.main()
