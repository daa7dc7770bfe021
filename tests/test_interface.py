"""The interface: each name stands in its module, with its arguments by position and by name."""

import importlib
import inspect
import unittest

ERRORS = [
    "ModulusError", "InvalidPrime", "InvalidPolynomial", "InvalidModulus", "InvalidNumber",
    "InvalidRest", "InvalidList", "InvalidGroup", "TooMany",
]

# For each function its arguments, and a value for each of them.
FUNCTIONS = {
    "modulusfields.primes": {
        "is_modulus": {"p": 3, "value": [0, 1]},
        "is_prime": {"p": 3, "value": [0, 1]},
        "primes_of": {"p": 3, "power": 2},
        "factors": {"p": 3, "modulus": [0, 0, 2, 1]},
    },
    "modulusfields.rests": {
        "rest_of": {"p": 3, "modulus": [1, 0, 1], "polynomial": [0, 0, 0, 1]},
        "how_many_free": {"p": 3, "modulus": [1, 0, 1]},
        "free_rests": {"p": 3, "modulus": [1, 0, 1]},
        "rest_product": {"p": 3, "modulus": [1, 0, 1], "one": [0, 1], "other": [1, 1]},
        "rest_opposite": {"p": 3, "modulus": [1, 0, 1], "one": [0, 1]},
        "order_of": {"p": 3, "modulus": [1, 0, 1], "one": [0, 1]},
        "is_group": {"p": 3, "modulus": [1, 0, 1], "value": [[1], [2]]},
        "generated": {"p": 3, "modulus": [1, 0, 1], "some": [[0, 1]]},
        "cosets": {"p": 3, "modulus": [1, 0, 1], "group": [[1], [2]]},
    },
    "modulusfields.deeds": {
        "deed": {"p": 3, "polynomial": [1, 2]},
        "is_short": {"p": 3, "value": [[0, 1], [1]]},
        "short_sum": {"p": 3, "one": [[0, 1], [1]], "other": [[2]]},
        "short_put": {"p": 3, "one": [[0, 1], [1]], "other": [[1, 2]]},
        "unlike_place": {"p": 3, "short": [[0, 1], [2]]},
        "acted": {"p": 3, "prime": [1, 0, 1], "polynomial": [0, 1], "rest": [1, 1]},
    },
    "modulusfields.products": {
        "monic_product": {"p": 3, "power": 1},
        "monic_multiple": {"p": 3, "power": 1},
        "lower_row": {"p": 3, "power": 1},
        "lower_value": {"p": 3, "power": 1, "polynomial": [0, 0, 1]},
        "through": {"p": 3, "values": [[1], []]},
        "summed": {"p": 3, "parts": [[1], [0, 2]], "polynomial": [0, 0, 1]},
    },
    "modulusfields.zeros": {
        "own_row": {"p": 3, "modulus": [0, 1, 1]},
        "lean_row": {"p": 3, "modulus": [0, 1, 1]},
        "row_product": {"p": 3, "one": [[1], [0, 1]], "other": [[2]]},
        "put_in": {"p": 3, "row": [[0, 1], [], [1]], "modulus": [1, 1]},
        "own_value": {"p": 3, "modulus": [0, 1], "prime": [1, 0, 1], "one": [0, 1]},
    },
    "modulusfields.apart": {
        "row_by": {"p": 3, "modulus": [0, 0, 1], "prime": [1, 1]},
        "apart_kind": {"p": 3, "modulus": [0, 0, 1], "prime": [1, 1]},
        "apart": {"p": 3, "modulus": [0, 0, 1], "prime": [1, 1]},
        "is_apart": {"p": 3, "modulus": [0, 0, 1], "prime": [1, 1], "value": [[1], [2], [], [1]]},
        "led": {"p": 3, "modulus": [0, 0, 1], "prime": [1, 1], "row": [[1], [2], [], [1]], "polynomial": [2]},
        "leader": {
            "p": 3, "modulus": [0, 0, 1], "prime": [1, 1], "one": [[1], [2], [], [1]], "other": [[2], [2], [], [1]],
        },
        "zeros_by": {"p": 3, "modulus": [0, 1], "prime": [1, 1]},
    },
    "modulusfields.lots": {
        "lot_rows": {"p": 3, "modulus": [0, 1], "prime": [1, 1], "group": [[1], [2]]},
        "is_lot_row": {"p": 3, "modulus": [0, 1], "prime": [1, 1], "group": [[1], [2]], "value": [[2], [], [1]]},
    },
    "modulusfields.modules": {
        "mark_of": {"p": 3, "prime": [1, 0, 1], "rest": [1, 1]},
        "how_many_marked": {"p": 3, "prime": [1, 0, 1], "mark": [0, 1]},
        "marked": {"p": 3, "prime": [1, 0, 1], "mark": [0, 1]},
        "how_many_killed": {"p": 3, "prime": [1, 0, 1], "polynomial": [0, 1]},
        "killed": {"p": 3, "prime": [1, 0, 1], "polynomial": [0, 1]},
        "is_maker": {"p": 3, "prime": [1, 0, 1], "rest": [0, 1]},
        "first_maker": {"p": 3, "prime": [1, 0, 1]},
        "answers": {"p": 3, "prime": [1, 0, 1], "polynomial": [0, 1], "rest": [1, 1]},
        "answer": {"p": 3, "prime": [1, 0, 1], "polynomial": [0, 1], "rest": [1, 1]},
        "bar": {"p": 3, "prime": [1, 0, 1], "polynomial": [0, 1], "rest": [1]},
        "prime_parts": {"p": 3, "prime": [1, 2, 0, 1], "rest": [0, 1]},
        "common_mark": {"p": 3, "prime": [1, 0, 1], "rests": [[1, 1]]},
    },
    "modulusfields.residues": {
        "residue": {"p": 3, "modulus": [1, 0, 1], "polynomial": [1, 1]},
        "how_many_with": {"p": 3, "modulus": [1, 0, 1], "number": 2},
    },
    "modulusfields.turning": {
        "walk": {"p": 3, "modulus": [1, 0, 1], "polynomial": [1, 1]},
        "is_walk": {"p": 3, "modulus": [0, 1], "polynomial": [1, 1], "value": [("rest", [0, 1], [1], 1)]},
        "root": {"p": 3, "prime": [1, 0, 1], "count": 2, "polynomial": [2]},
        "power_or_bar": {"p": 3, "count": 2, "polynomial": [1, 2, 1]},
    },
    "modulusfields.classcounts": {
        "monics_in_classes": {"p": 3, "modulus": [0, 0, 1], "power": 3},
        "weights_in_classes": {"p": 3, "modulus": [0, 0, 1], "power": 3},
    },
    "modulusfields.classprimes": {
        "primes_in_class": {"p": 3, "modulus": [0, 0, 1], "power": 5, "rest": [1, 2]},
        "primes_in_classes": {"p": 3, "modulus": [0, 0, 1], "power": 5},
        "primes_of_order": {"p": 3, "modulus": [0, 0, 1], "power": 4, "order": 2},
        "first_prime": {"p": 3, "modulus": [0, 0, 1], "rest": [1, 2]},
    },
    "modulusfields.places": {
        "places_over": {"p": 3, "modulus": [0, 0, 1], "group": [[1]], "prime": [1, 1]},
        "far_places": {"p": 3, "modulus": [0, 0, 1], "group": [[1]]},
    },
    "modulusfields.fieldcounts": {
        "genus": {"p": 3, "modulus": [1, 0, 1], "group": [[1]]},
        "how_many_places": {"p": 3, "modulus": [1, 0, 1], "group": [[1]], "degree": 2},
        "points": {"p": 3, "modulus": [1, 0, 1], "group": [[1]], "count": 2},
        "class_polynomial": {"p": 3, "modulus": [1, 0, 1], "group": [[1]]},
        "further_points": {"p": 3, "modulus": [1, 0, 1], "group": [[1]], "count": 2},
    },
}


class InterfaceTest(unittest.TestCase):
    def test_errors(self):
        module = importlib.import_module("modulusfields.errors")
        for name in ERRORS:
            self.assertTrue(inspect.isclass(vars(module)[name]))
            self.assertEqual(vars(module)[name].__module__, "modulusfields.errors")

    def test_functions(self):
        for path, functions in FUNCTIONS.items():
            module = importlib.import_module(path)
            for name, arguments in functions.items():
                function = vars(module)[name]
                self.assertTrue(inspect.isfunction(function))
                self.assertEqual(function.__module__, path)
                parameters = inspect.signature(function).parameters.values()
                self.assertEqual([one.name for one in parameters], list(arguments))
                for one in parameters:
                    self.assertIs(one.kind, inspect.Parameter.POSITIONAL_OR_KEYWORD)
                    self.assertIs(one.default, inspect.Parameter.empty)

    def test_by_position_and_by_name(self):
        for path, functions in FUNCTIONS.items():
            module = importlib.import_module(path)
            for name, arguments in functions.items():
                function = vars(module)[name]
                turned = dict(reversed(list(arguments.items())))
                self.assertEqual(function(*arguments.values()), function(**turned), name)


if __name__ == "__main__":
    unittest.main()
