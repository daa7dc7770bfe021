"""The interface: each name stands in its module, with its arguments by position and by name."""

import importlib
import inspect
import unittest

ERRORS = [
    "ModulusError", "InvalidPrime", "InvalidPolynomial", "InvalidModulus", "InvalidNumber",
    "InvalidRest", "InvalidList", "InvalidGroup", "TooMany",
]

# For each function its arguments, and a value for each of them.
FUNCTIONS = {
    "modulusfields.primes": {
        "is_modulus": {"p": 3, "value": [0, 1]},
        "is_prime": {"p": 3, "value": [0, 1]},
        "primes_of": {"p": 3, "power": 2},
        "factors": {"p": 3, "modulus": [0, 0, 2, 1]},
    },
    "modulusfields.rests": {
        "rest_of": {"p": 3, "modulus": [1, 0, 1], "polynomial": [0, 0, 0, 1]},
        "how_many_free": {"p": 3, "modulus": [1, 0, 1]},
        "free_rests": {"p": 3, "modulus": [1, 0, 1]},
        "rest_product": {"p": 3, "modulus": [1, 0, 1], "one": [0, 1], "other": [1, 1]},
        "rest_opposite": {"p": 3, "modulus": [1, 0, 1], "one": [0, 1]},
        "order_of": {"p": 3, "modulus": [1, 0, 1], "one": [0, 1]},
        "is_group": {"p": 3, "modulus": [1, 0, 1], "value": [[1], [2]]},
        "generated": {"p": 3, "modulus": [1, 0, 1], "some": [[0, 1]]},
        "cosets": {"p": 3, "modulus": [1, 0, 1], "group": [[1], [2]]},
    },
}


class InterfaceTest(unittest.TestCase):
    def test_errors(self):
        module = importlib.import_module("modulusfields.errors")
        for name in ERRORS:
            self.assertTrue(inspect.isclass(vars(module)[name]))
            self.assertEqual(vars(module)[name].__module__, "modulusfields.errors")

    def test_functions(self):
        for path, functions in FUNCTIONS.items():
            module = importlib.import_module(path)
            for name, arguments in functions.items():
                function = vars(module)[name]
                self.assertTrue(inspect.isfunction(function))
                self.assertEqual(function.__module__, path)
                parameters = inspect.signature(function).parameters.values()
                self.assertEqual([one.name for one in parameters], list(arguments))
                for one in parameters:
                    self.assertIs(one.kind, inspect.Parameter.POSITIONAL_OR_KEYWORD)
                    self.assertIs(one.default, inspect.Parameter.empty)

    def test_by_position_and_by_name(self):
        for path, functions in FUNCTIONS.items():
            module = importlib.import_module(path)
            for name, arguments in functions.items():
                function = vars(module)[name]
                turned = dict(reversed(list(arguments.items())))
                self.assertEqual(function(*arguments.values()), function(**turned), name)


if __name__ == "__main__":
    unittest.main()
