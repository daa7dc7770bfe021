"""Promise [2]: each wrong argument is refused by the error of its point, the first wrong one first."""

import unittest

from modulusfields import primes, rests
from modulusfields.errors import (
    InvalidGroup, InvalidList, InvalidModulus, InvalidNumber, InvalidPolynomial, InvalidPrime, InvalidRest, TooMany,
)
from tests.refused import RefusalChecks
from tests.support import PRIMES, any_values, bad_moduli, bad_polynomials, bad_primes

# For each `p` a modulus, and a rest by it that is neither nought nor free.
MODULUS = {3: [0, 0, 2, 1], 5: [0, 0, 1], 7: [0, 1, 1]}
BOUND = {3: [0, 2, 1], 5: [0, 3], 7: [0, 2]}


def bad_powers():
    return [value for value in any_values() if isinstance(value, bool) or value not in [1, 2, 4]] + [[1], [], 7, 60]


def bad_rests(p):
    """Values that are no rest by the modulus."""
    many = len(MODULUS[p])
    return bad_polynomials(p) + [list(MODULUS[p]), [0] * (many - 1) + [2], [1] * (many + 3), [0] * 61 + [1]]


def bad_free(p):
    """Values that are no free rest by the modulus."""
    return bad_rests(p) + [[], [0, 1], BOUND[p]]


def bad_lists(p):
    """Values that are no list of free rests by the modulus."""
    tuples = [(), ([1],), ([1], [2]), [(1,)], [[1], (2,)], {0: [1]}, "", "1", [1], [1, 2], [[1], 2], [[1], None]]
    return any_values() + tuples + [[value] for value in bad_free(p)] + [[[1], value] for value in bad_free(p)]


def bad_groups(p):
    """Values that are no group by the modulus: the last ones are lists of free rests."""
    lists = [
        [], [[2]], [[p - 1]], [[1], [1]], [[p - 1], [1]], [[1], [1], [p - 1]], [[1], [p - 1], [p - 1]],
        [[1], [1, 0]], [[1], [3, 1]], [[1], [2, 2]], [[n] for n in range(p - 1, 0, -1)], [[n] for n in range(2, p)],
    ]
    return bad_lists(p) + lists


def refusals(p):
    """For each function: arguments that are right, and for each place the error and values that are refused."""
    prime = (InvalidPrime, bad_primes())
    modulus = (InvalidModulus, bad_moduli(p))
    good = MODULUS[p]
    polynomials = (InvalidPolynomial, bad_polynomials(p) + [[0] * 61 + [1], [1] * 100])
    rest, free = (InvalidRest, bad_rests(p)), (InvalidRest, bad_free(p))
    return [
        (primes.is_modulus, [p, good], [prime]),
        (primes.is_prime, [p, [0, 1]], [prime]),
        (primes.primes_of, [p, 2], [prime, (InvalidNumber, bad_powers())]),
        (primes.factors, [p, good], [prime, modulus]),
        (rests.rest_of, [p, good, [0, 1, 1, 1, 1]], [prime, modulus, polynomials]),
        (rests.how_many_free, [p, good], [prime, modulus]),
        (rests.free_rests, [p, good], [prime, modulus]),
        (rests.rest_product, [p, good, [0, 1], [2]], [prime, modulus, rest, rest]),
        (rests.rest_opposite, [p, good, [2]], [prime, modulus, free]),
        (rests.order_of, [p, good, [2]], [prime, modulus, free]),
        (rests.is_group, [p, good, [[1]]], [prime, modulus]),
        (rests.generated, [p, good, [[2]]], [prime, modulus, (InvalidList, bad_lists(p))]),
        (rests.cosets, [p, good, [[1]]], [prime, modulus, (InvalidGroup, bad_groups(p))]),
    ]


class RefusalsTest(RefusalChecks, unittest.TestCase):
    def table(self, p):
        return refusals(p)

    def test_by_name(self):
        value = [0, 2]
        with self.assertRaises(InvalidModulus) as caught:
            rests.rest_product(other=[9], one=[9], modulus=value, p=3)
        self.assertIs(caught.exception.value, value)

    def test_first_wrong_argument_first(self):
        for p in PRIMES:
            for function, arguments, places in refusals(p):
                for place, (error, values) in enumerate(places):
                    for value in values:
                        wrong = arguments[:place] + [value] + [None] * (len(arguments) - place - 1)
                        self.refused(function, wrong, error, value)

    def test_wrong_value_never_stands_ahead_of_a_wrong_argument(self):
        for function in [primes.is_modulus, primes.is_prime]:
            self.refused(function, [4, None], InvalidPrime, 4)
        self.refused(rests.is_group, [4, None, None], InvalidPrime, 4)
        modulus = (0, 1)
        self.refused(rests.is_group, [3, modulus, None], InvalidModulus, modulus)

    def test_prime_ahead_of_too_many(self):
        self.refused(primes.primes_of, [11, 6], InvalidPrime, 11)
        with self.assertRaises(TooMany) as caught:
            primes.primes_of(7, 6)
        self.assertEqual(caught.exception.value, 19544)

    def test_booleans_are_no_numbers(self):
        for p in PRIMES:
            self.assertIs(primes.is_modulus(p, [False, True]), False)
            self.assertIs(primes.is_modulus(p, [True, 1]), False)
            self.assertIs(primes.is_prime(p, [False, 1]), False)
            self.assertIs(rests.is_group(p, [0, 1], [[True]]), False)
            self.refused(primes.primes_of, [p, True], InvalidNumber, True)
            self.refused(primes.primes_of, [p, False], InvalidNumber, False)
        self.refused(primes.primes_of, [True, 1], InvalidPrime, True)

    def test_moduli_just_beyond_the_bounds(self):
        for p, modulus in [(3, [1, 0, 0, 0, 0, 1]), (5, [2, 0, 0, 0, 1]), (7, [1, 0, 0, 1])]:
            self.refused(rests.free_rests, [p, modulus], InvalidModulus, modulus)
            self.refused(primes.factors, [p, modulus], InvalidModulus, modulus)

    def test_common_factors_are_refused_as_free(self):
        for p in PRIMES:
            for one in [[], [0, 1], BOUND[p]]:
                self.assertEqual(rests.rest_product(p, MODULUS[p], one, [1]), one)
                self.refused(rests.rest_opposite, [p, MODULUS[p], one], InvalidRest, one)
                self.refused(rests.order_of, [p, MODULUS[p], one], InvalidRest, one)


if __name__ == "__main__":
    unittest.main()
