"""Promises [29] and [30]: residues."""

import time
import unittest

from modulusfields.errors import InvalidModulus
from modulusfields.residues import how_many_with, residue
from tests.support import (
    FOURTH, PRIMES, SIXTH, all_moduli, free_by, monics, plus, prime_powers_of, rest, residue_by_powers, rests_by,
    sieved, some_moduli, times,
)

# Moduli of the power 30 with their primes: five of the power 6, or one many times and others beside it.
LONG = {
    3: [
        [([1, 0, 0, 0, 2, 0, 1], 1), (SIXTH[3], 4)],
        [([0, 1], 16), ([1, 1], 4), ([1, 0, 1], 2), ([2, 2, 0, 1], 1), ([2, 1], 3)],
    ],
    5: [[(SIXTH[5], 5)], [([0, 1], 3), ([2, 1], 13), (FOURTH[5], 3), ([2, 0, 1], 1)]],
    7: [[(SIXTH[7], 5)], [([0, 1], 5), ([3, 1], 11), (FOURTH[7], 3), ([1, 0, 1], 1)]],
}


def product_of(p, primes):
    """The product of primes, each so many times."""
    result = [1]
    for prime, count in primes:
        for _ in range(count):
            result = times(p, result, prime)
    return result


def long_polynomials(p):
    """Polynomials up to the power 60."""
    return [
        [], [1], [p - 1], [0, 1], [1, 2, 1], [2] + [0] * 29 + [1], [1] * 31, [0] * 60 + [1], [1] * 61, [0] * 60 + [2],
        [(k * k + k // 3 + 1) % p for k in range(60)] + [p - 1], [(k ** 3 + 2) % p for k in range(45)] + [1],
    ]


class ResidueTest(unittest.TestCase):
    def test_powers_prime_by_prime(self):
        for p in PRIMES:
            for modulus in all_moduli(p)[:: 1 if p == 5 else 2]:
                primes = prime_powers_of(p, modulus)
                for one in rests_by(p, [0] * 3 + [1])[::11] + [[0] * 9 + [1, 1], [2, 0, 1, 0, 0, 1]]:
                    wanted = 1
                    for prime, count in primes:
                        wanted = wanted * residue_by_powers(p, prime, one) ** count % p
                    self.assertEqual(residue(p, modulus, one), wanted, (p, modulus, one))

    def test_moduli_of_the_power_30(self):
        start = time.process_time()
        for p in PRIMES:
            for primes in LONG[p]:
                modulus = product_of(p, primes)
                self.assertEqual(len(modulus), 31)
                for one in long_polynomials(p):
                    wanted = 1
                    for prime, count in primes:
                        wanted = wanted * residue_by_powers(p, prime, one) ** count % p
                    self.assertEqual(residue(p, modulus, one), wanted, (p, primes, one))
        self.assertLess(time.process_time() - start, 20)

    def test_products(self):
        for p in PRIMES:
            some = some_moduli(p)
            for modulus in some:
                for other in some:
                    for one in [[2], [1, 1], [0, 0, 2], [1, 2, 0, 1]]:
                        both = times(p, modulus, other)
                        there = residue(p, modulus, one)
                        self.assertEqual(residue(p, both, one), there * residue(p, other, one) % p)
                        two = times(p, one, other)
                        self.assertEqual(residue(p, modulus, two), there * residue(p, modulus, other) % p)

    def test_classes(self):
        for p in PRIMES:
            for modulus in some_moduli(p):
                for one in rests_by(p, modulus)[::4]:
                    for further in [[1], [2, 1], [0] * 40 + [1]]:
                        alike = plus(p, one, times(p, modulus, further))
                        self.assertEqual(residue(p, modulus, alike), residue(p, modulus, one))

    def test_numbers(self):
        for p in PRIMES:
            for modulus in some_moduli(p) + [[1] * 30 + [1], [0] * 29 + [1], [2] + [0] * 28 + [1]]:
                for number in range(1, p):
                    self.assertEqual(residue(p, modulus, [number]), number ** (len(modulus) - 1) % p)
                self.assertEqual(residue(p, modulus, []), 0)

    def test_nought_just_for_common_factors(self):
        for p in PRIMES:
            for modulus in some_moduli(p):
                free = free_by(p, modulus)
                for one in rests_by(p, modulus):
                    self.assertEqual(residue(p, modulus, one) == 0, one not in free)
            both = times(p, SIXTH[p], [0] * 24 + [1])
            self.assertEqual(residue(p, both, times(p, SIXTH[p], [2, 1])), 0)
            self.assertEqual(residue(p, both, [0, 1]), 0)
            self.assertNotEqual(residue(p, both, [1, 1]), 0)

    def test_turned_over(self):
        for p in PRIMES:
            some = [one for power in range(1, 4) for one in monics(p, power)[:: power * power]]
            some += [FOURTH[p], SIXTH[p], [1] * 31, [2] + [0] * 28 + [1]]
            for one in some:
                for other in some[::3]:
                    there, back = residue(p, one, other), residue(p, other, one)
                    odd = len(one) % 2 == 0 and len(other) % 2 == 0
                    self.assertEqual(there, -back % p if odd else back)

    def test_told_by_hand(self):
        # The residue by T + a is the value at -a.
        for p in PRIMES:
            for a in range(p):
                for one in [[3 % p, 1], [1, 0, 1], [1, 2, 1, 1, 2]]:
                    value = sum(number * (-a) ** k for k, number in enumerate(one)) % p
                    self.assertEqual(residue(p, [a, 1], one if one[0] or len(one) > 1 else []), value)

    def test_kinds(self):
        for one in [[], [1], [0, 1]]:
            self.assertIs(type(residue(3, [0, 1], one)), int)


class HowManyWithTest(unittest.TestCase):
    def test_all_free_rests(self):
        for p in PRIMES:
            for modulus in all_moduli(p)[::7] + some_moduli(p):
                counts = {number: 0 for number in range(1, p)}
                for one in free_by(p, modulus):
                    counts[residue(p, modulus, one)] += 1
                for number in range(1, p):
                    self.assertEqual(how_many_with(p, modulus, number), counts[number], (p, modulus, number))

    def test_counts_of_times_with_a_common_divisor(self):
        for p, modulus in [
            (3, [0, 0, 1]), (3, [0, 0, 1, 2, 1]), (3, [1, 0, 2, 0, 1]), (3, [0, 0, 0, 0, 1]), (3, [0, 0, 0, 1]),
            (5, [0, 0, 1]), (5, [0, 0, 0, 1]), (5, [1, 2, 1]), (7, [0, 0, 1]), (7, [4, 4, 1]),
        ]:
            for number in range(1, p):
                told = [one for one in free_by(p, modulus) if residue(p, modulus, one) == number]
                self.assertEqual(how_many_with(p, modulus, number), len(told))

    def test_moduli_within_the_bounds_only(self):
        for p, modulus in [(3, [1, 0, 0, 0, 0, 1]), (5, [2, 0, 0, 0, 1]), (7, [1, 0, 0, 1])]:
            with self.assertRaises(InvalidModulus):
                how_many_with(p, modulus, 1)
            self.assertIn(residue(p, modulus, [1, 1]), range(p))


class LongModuliTest(unittest.TestCase):
    def test_primes_of_the_list_are_primes(self):
        for p in PRIMES:
            for primes in LONG[p]:
                for prime, _ in primes:
                    if len(prime) < 4:
                        self.assertIn(prime, sieved(p, len(prime) - 1))


if __name__ == "__main__":
    unittest.main()
