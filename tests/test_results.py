"""Promises [1] and [2]: arguments stay, results are new each time, and no list stands in one twice."""

import unittest
from copy import deepcopy

from modulusfields import primes, rests
from modulusfields.errors import InvalidList
from tests.support import lists_within

CALLS = [
    (primes.is_modulus, [3, [0, 1]]),
    (primes.is_prime, [7, [1, 0, 1]]),
    (primes.primes_of, [3, 1]),
    (primes.primes_of, [5, 3]),
    (primes.factors, [3, [0, 1]]),
    (primes.factors, [3, [1, 0, 1]]),
    (primes.factors, [3, [0, 0, 2, 1]]),
    (rests.rest_of, [3, [1, 0, 1], []]),
    (rests.rest_of, [3, [1, 0, 1], [1, 2]]),
    (rests.rest_of, [3, [1, 0, 1], [1, 2, 1, 1, 2]]),
    (rests.how_many_free, [5, [0, 0, 0, 1]]),
    (rests.free_rests, [7, [0, 0, 1]]),
    (rests.rest_product, [3, [1, 0, 1], [1], [0, 1]]),
    (rests.rest_product, [3, [1, 0, 1], [0, 1], [1]]),
    (rests.rest_product, [3, [1, 0, 1], [], [1]]),
    (rests.rest_opposite, [3, [1, 0, 1], [1]]),
    (rests.rest_opposite, [3, [1, 0, 1], [0, 1]]),
    (rests.order_of, [3, [1, 0, 1], [1, 1]]),
    (rests.is_group, [3, [1, 0, 1], [[1], [2]]]),
    (rests.generated, [3, [1, 0, 1], []]),
    (rests.generated, [3, [1, 0, 1], [[1]]]),
    (rests.generated, [3, [1, 0, 1], [[1], [2]]]),
    (rests.generated, [3, [0, 0, 1], [[2, 1], [1], [2, 1]]]),
    (rests.cosets, [3, [0, 0, 1], [[1], [2]]]),
    (rests.cosets, [5, [0, 1], [[1], [2], [3], [4]]]),
    (rests.cosets, [5, [0, 1], [[1]]]),
]


class ResultsTest(unittest.TestCase):
    def test_arguments_stay(self):
        for function, arguments in deepcopy(CALLS):
            kept = deepcopy(arguments)
            function(*arguments)
            self.assertEqual(repr(arguments), repr(kept), function.__name__)

    def test_results_are_new(self):
        for function, arguments in deepcopy(CALLS):
            first, second = function(*arguments), function(*arguments)
            self.assertEqual(repr(first), repr(second))
            objects = lists_within([first]) + lists_within([second]) + lists_within(arguments)
            self.assertEqual(len(objects), len({id(one) for one in objects}), (function.__name__, arguments))

    def test_changed_results_change_no_later_answer(self):
        for function, arguments in deepcopy(CALLS):
            first = function(*arguments)
            told = repr(first)
            for one in lists_within(first):
                one.append(9)
                one.insert(0, "changed")
            self.assertEqual(repr(function(*arguments)), told)

    def test_changed_arguments_change_no_earlier_answer(self):
        for function, arguments in deepcopy(CALLS):
            first = function(*arguments)
            told = repr(first)
            for one in lists_within(arguments):
                one.append(9)
            self.assertEqual(repr(first), told)

    def test_one_list_handed_in_twice(self):
        one, modulus = [2], [0, 1]
        self.assertEqual(rests.rest_product(3, modulus, one, one), [1])
        self.assertEqual(rests.generated(3, modulus, [one, one]), [[1], [2]])
        self.assertEqual(rests.rest_of(3, modulus, modulus), [])
        self.assertEqual((one, modulus), ([2], [0, 1]))

    def test_refused_calls_change_nothing(self):
        some = [[1], [0, 1]]
        with self.assertRaises(InvalidList):
            rests.generated(3, [0, 1], some)
        self.assertEqual(some, [[1], [0, 1]])
        self.assertEqual(rests.generated(3, [0, 1], [[1]]), [[1]])

    def test_kinds_of_results(self):
        for function, arguments in deepcopy(CALLS):
            name = function.__name__
            kind = bool if name.startswith("is_") else int if name in ["how_many_free", "order_of"] else list
            self.assertIs(type(function(*arguments)), kind, name)


if __name__ == "__main__":
    unittest.main()
