"""Promise [2] for deeds, products, zeros and rows by a prime: each wrong argument is refused, the first one first."""

import unittest

from modulusfields import apart, deeds, products, zeros
from modulusfields.errors import (
    InvalidList, InvalidModulus, InvalidNumber, InvalidPolynomial, InvalidPrime, InvalidRest,
)
from tests.refused import RefusalChecks
from tests.support import (
    MODULUS_POWERS, PRIMES, SIXTH, any_values, bad_moduli, bad_polynomials, bad_primes, sieved, times,
)

# For each `p` a modulus, a prime beside it that has just two lone rows, and these.
MODULUS = {3: [0, 0, 1], 5: [0, 1], 7: [0, 1]}
PRIME = {3: [1, 1], 5: [4, 1], 7: [2, 1]}
LONE = {
    3: [[[1], [2], [], [1]], [[2], [2], [], [1]]], 5: [[[2], [], [1]], [[3], [], [1]]],
    7: [[[3], [], [], [1]], [[4], [], [], [1]]],
}
POWERS = {3: 3, 5: 2, 7: 2}


def bad_powers(p):
    numbers = list(range(POWERS[p] + 1))
    values = [value for value in any_values() if isinstance(value, bool) or value not in numbers]
    return values + [[], [1], -1, POWERS[p] + 1, 60]


def bad_primes_by(p):
    """Values that are no prime of a power of at most 6."""
    one, two = sieved(p, 1)[0], sieved(p, 2)[0]
    products_of_primes = [times(p, one, one), times(p, one, two), times(p, two, two), times(p, SIXTH[p], one)]
    return bad_polynomials(p) + products_of_primes + [
        [], [1], [2], [0, 2], [1, 2], [0] * 6 + [1], [0] * 7 + [1], [2] + [0] * 60 + [1], times(p, SIXTH[p], [2]),
    ]


def bad_small_polynomials(p):
    """Values that are nought nor a polynomial of a power that a modulus may have."""
    return bad_polynomials(p) + [[0] * (MODULUS_POWERS[p] + 1) + [1], [1] * (MODULUS_POWERS[p] + 2), [0] * 60 + [1]]


def bad_lists(p, most, greatest):
    """Values that are no list of so many polynomials of such powers, the last one not nought."""
    return any_values() + [
        [1], [0, 1], [[1], 2], [[1], None], [[1], (2,)], [(1,), [1]], ([1],), ([1], [2]), [[True]], [[1], [1, True]],
        [[0] * (greatest + 1) + [1]], [[1], [0] * (greatest + 1) + [1], [1]], [[1] * (greatest + 2)],
        [[1]] * (most + 1), [[]] * most + [[1]], {0: [1]}, "1",
    ] + [[value] for value in bad_polynomials(p)] + [[value, [1]] for value in bad_polynomials(p)]


def bad_rows(p, most, greatest):
    return bad_lists(p, most, greatest) + [[[]], [[1], []], [[0, 1], [1], []], [[], []], [[1]] * (most - 1) + [[]]]


def bad_values(p):
    return bad_lists(p, MODULUS_POWERS[p] + 1, 200) + [[], [[]] * (MODULUS_POWERS[p] + 2)]


def bad_rests(p):
    """Values that are no rest by the prime of power 2."""
    return bad_polynomials(p) + [[0, 0, 1], [1, 1, 1], [0] * 60 + [1], list(sieved(p, 2)[0])]


def bad_lone(p):
    """Values that are none of the two lone rows: of the right form or not."""
    one, other = LONE[p]
    return bad_lists(p, len(one), 0) + [
        [], [[]], [[1]], [[], [1]], [[1], [1]], [[1]] * len(one), [[] for _ in one[1:]] + [[1]], one[0], [one],
        [one, other], one + other, one + [[]], one[1:], one[:-1], [[], *one], tuple(one), [tuple(item) for item in one],
        one[:-1] + [[True]], [[1, 0]] + one[1:], [[0, 1]] + one[1:], [[]] + one[1:],
        [[2 * number % p for number in item] for item in one],
    ]


def not_free(p):
    """Values that are no polynomial with a free rest by the modulus."""
    return bad_polynomials(p) + [[], [0, 1], [0, 2], [0, 1, 1], [0, 0, 1], list(MODULUS[p]), [0] * 60 + [1], [1] * 62]


def refusals(p):
    """For each function: arguments that are right, and for each place the error and values that are refused."""
    prime, modulus = (InvalidPrime, bad_primes()), (InvalidModulus, bad_moduli(p))
    by = (InvalidModulus, bad_primes_by(p))
    small, power = (InvalidPolynomial, bad_small_polynomials(p)), (InvalidNumber, bad_powers(p))
    long = (InvalidPolynomial, bad_polynomials(p) + [[0] * 61 + [1], [1] * 62])
    short, row = (InvalidList, bad_rows(p, 8, 2000)), (InvalidList, bad_rows(p, 101, 200))
    values, rest, lone = (InvalidList, bad_values(p)), (InvalidRest, bad_rests(p)), (InvalidList, bad_lone(p))
    short_row, some_row, second = [[0, 1], [1]], [[1], [], [2, 1]], sieved(p, 2)[0]
    both = [p, MODULUS[p], PRIME[p]]
    return [
        (deeds.deed, [p, [0, 1, 2]], [prime, small]),
        (deeds.is_short, [p, short_row], [prime]),
        (deeds.short_sum, [p, short_row, [[2]]], [prime, short, short]),
        (deeds.short_put, [p, short_row, [[2]]], [prime, short, short]),
        (deeds.unlike_place, [p, short_row], [prime, short]),
        (deeds.acted, [p, second, [0] * 60 + [2], [0, 1]], [prime, by, long, rest]),
        (products.monic_product, [p, 1], [prime, power]),
        (products.monic_multiple, [p, 1], [prime, power]),
        (products.lower_row, [p, 1], [prime, power]),
        (products.lower_value, [p, 1, [0, 1, 2]], [prime, power, small]),
        (products.through, [p, [[1], [0, 2]]], [prime, values]),
        (products.summed, [p, [[1], [0, 2]], [0, 1, 2]], [prime, values, small]),
        (zeros.own_row, [p, [0, 1, 1]], [prime, modulus]),
        (zeros.lean_row, [p, [0, 1, 1]], [prime, modulus]),
        (zeros.row_product, [p, some_row, [[1], [1]]], [prime, row, row]),
        (zeros.put_in, [p, some_row, [0, 1]], [prime, row, modulus]),
        (zeros.own_value, [p, [0, 1, 1], second, [0, 1]], [prime, modulus, by, rest]),
        (apart.row_by, both, [prime, modulus, by]),
        (apart.apart_kind, both, [prime, modulus, by]),
        (apart.apart, both, [prime, modulus, by]),
        (apart.is_apart, both + [LONE[p][0]], [prime, modulus, by]),
        (apart.led, both + [LONE[p][0], [2]], [prime, modulus, by, lone, (InvalidPolynomial, not_free(p))]),
        (apart.leader, both + [LONE[p][0], LONE[p][1]], [prime, modulus, by, lone, lone]),
        (apart.zeros_by, both, [prime, modulus, by]),
    ]


class RefusalsOfRowsTest(RefusalChecks, unittest.TestCase):
    def table(self, p):
        return refusals(p)

    def test_the_lone_rows_of_the_table(self):
        for p in PRIMES:
            self.assertEqual(apart.apart(p, MODULUS[p], PRIME[p]), LONE[p])

    def test_bounds_are_taken(self):
        for p in PRIMES:
            greatest = [1] * (MODULUS_POWERS[p] + 1)
            self.assertEqual(deeds.deed(p, greatest)[0], greatest)
            self.assertEqual(products.lower_value(p, 0, greatest), greatest)
            self.assertEqual(products.summed(p, [[1] * 201], greatest), times(p, greatest, [1] * 201))
            self.assertEqual(len(products.through(p, [[1] * 201] * len(greatest))), len(greatest))
            self.assertEqual(deeds.short_sum(p, [[1] * 2001] * 8, []), [[1] * 2001] * 8)
            self.assertEqual(zeros.row_product(p, [[1] * 201] * 101, [[2]]), [[2] * 201] * 101)
            self.assertEqual(zeros.put_in(p, [[1] * 201], [0, 1]), [[1] * 201])
            self.assertEqual(deeds.acted(p, SIXTH[p], [0] * 60 + [1], []), [])
            self.assertEqual(apart.led(p, MODULUS[p], PRIME[p], LONE[p][0], [1] + [0] * 59 + [1]), LONE[p][0])
            for power in range(POWERS[p] + 1):
                self.assertEqual(products.lower_row(p, power)[-1], [1])

    def test_row_is_checked_ahead_of_the_modulus_that_is_put_in(self):
        row, modulus = [[1], []], [0, 2]
        self.refused(zeros.put_in, [3, row, modulus], InvalidList, row)
        self.refused(zeros.put_in, [4, row, modulus], InvalidPrime, 4)
        self.refused(zeros.put_in, [3, [[1]], modulus], InvalidModulus, modulus)

    def test_by_name(self):
        value = [0, 2]
        with self.assertRaises(InvalidModulus) as caught:
            apart.leader(other=None, one=None, prime=value, modulus=[0, 1], p=3)
        self.assertIs(caught.exception.value, value)

    def test_moduli_and_primes_have_bounds_of_their_own(self):
        for p, modulus in [(3, [1, 0, 0, 0, 0, 1]), (5, [2, 0, 0, 0, 1]), (7, [1, 0, 0, 1])]:
            for function in [apart.row_by, apart.apart_kind, apart.apart, apart.zeros_by]:
                self.refused(function, [p, modulus, [0, 1]], InvalidModulus, modulus)
            self.refused(zeros.own_row, [p, modulus], InvalidModulus, modulus)
            self.refused(zeros.put_in, [p, [[1]], modulus], InvalidModulus, modulus)
            self.assertEqual(apart.apart_kind(p, [0, 1], SIXTH[p])[2], 1)

    def test_lone_rows_of_another_prime_are_refused(self):
        for p in PRIMES:
            other = [0, 1] if p == 3 else [1, 1]
            for row in apart.apart(p, MODULUS[p], other):
                if row not in LONE[p]:
                    self.refused(apart.led, [p, MODULUS[p], PRIME[p], row, [1]], InvalidList, row)
                    self.refused(apart.leader, [p, MODULUS[p], PRIME[p], row, LONE[p][0]], InvalidList, row)


if __name__ == "__main__":
    unittest.main()
