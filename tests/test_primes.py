"""Promise [6]: moduli and primes."""

import time
import unittest

from modulusfields.errors import InvalidNumber, TooMany
from modulusfields.primes import factors, is_modulus, is_prime, primes_of
from tests.support import (
    MODULUS_POWERS, PRIMES, all_moduli, any_values, bad_moduli, bad_polynomials, monics, rest, sieved, times,
)

# How many primes there are of the powers 1 to 6.
COUNTS = {3: [3, 3, 8, 18, 48, 116], 5: [5, 10, 40, 150, 624, 2580], 7: [7, 21, 112, 588, 3360, 19544]}


def has_divisor(p, monic):
    """Whether some monic polynomial of at most half the power divides a monic one."""
    half = (len(monic) - 1) // 2
    return any(rest(p, monic, one) == [] for power in range(1, half + 1) for one in monics(p, power))


class ModulusTest(unittest.TestCase):
    def test_all_within_the_bounds(self):
        for p in PRIMES:
            for modulus in all_moduli(p):
                self.assertIs(is_modulus(p, modulus), True)

    def test_bounds_of_powers(self):
        for p, power in MODULUS_POWERS.items():
            for end in range(p):
                self.assertIs(is_modulus(p, [end] * power + [1]), True)
                self.assertIs(is_modulus(p, [end] * (power + 1) + [1]), False)

    def test_not_moduli(self):
        for p in PRIMES:
            for value in bad_moduli(p):
                self.assertIs(is_modulus(p, value), False, value)

    def test_numbers_hang_on_p(self):
        self.assertIs(is_modulus(3, [3, 1]), False)
        self.assertIs(is_modulus(5, [3, 1]), True)
        self.assertIs(is_modulus(5, [5, 1]), False)
        self.assertIs(is_modulus(7, [6, 1]), True)
        self.assertIs(is_modulus(7, [7, 1]), False)


class PrimeTest(unittest.TestCase):
    def test_against_a_sieve(self):
        for p, greatest in [(3, 6), (5, 4), (7, 3)]:
            for power in range(1, greatest + 1):
                primes = sieved(p, power)
                for monic in monics(p, power):
                    self.assertIs(is_prime(p, monic), monic in primes, (p, monic))

    def test_against_divisors_at_the_greatest_powers(self):
        for p in [5, 7]:
            for power in [5, 6]:
                told = {}
                for start in range(40):
                    monic = [(start * (k + 2) + k * k + start // p) % p for k in range(power)] + [1]
                    self.assertIs(is_prime(p, monic), not has_divisor(p, monic), (p, monic))
                    told[is_prime(p, monic)] = True
                self.assertEqual(len(told), 2)

    def test_products_and_squares_of_primes(self):
        for p in PRIMES:
            two, three = sieved(p, 2), sieved(p, 3)
            for one in three[:4]:
                for other in three[-4:] + [one]:
                    self.assertIs(is_prime(p, times(p, one, other)), False)
            for one in two[:3]:
                self.assertIs(is_prime(p, times(p, one, one)), False)
                self.assertIs(is_prime(p, times(p, one, times(p, one, one))), False)

    def test_powers_beyond_six(self):
        seventh = next(monic for monic in monics(3, 7) if not has_divisor(3, monic))
        self.assertIs(is_prime(3, seventh), False)
        self.assertIs(is_prime(3, [0] * 61 + [1]), False)

    def test_primes_may_exceed_the_bounds_of_moduli(self):
        for p in PRIMES:
            for power in range(MODULUS_POWERS[p] + 1, 7):
                prime = next(monic for monic in monics(p, power) if not has_divisor(p, monic))
                self.assertIs(is_prime(p, prime), True)
                self.assertIs(is_modulus(p, prime), False)

    def test_not_primes(self):
        for p in PRIMES:
            for value in bad_polynomials(p) + [[], [1], [2], [0, 2], [1, 2], [2, 0, 2]]:
                self.assertIs(is_prime(p, value), False, value)


class PrimesOfTest(unittest.TestCase):
    def test_each_power_against_a_sieve(self):
        for p in PRIMES:
            for power in range(1, 7):
                if COUNTS[p][power - 1] <= 1000:
                    self.assertEqual(primes_of(p, power), sieved(p, power))
                    self.assertEqual(len(primes_of(p, power)), COUNTS[p][power - 1])

    def test_too_many(self):
        for p in PRIMES:
            for power in range(1, 7):
                many = COUNTS[p][power - 1]
                if many > 1000:
                    with self.assertRaises(TooMany) as caught:
                        primes_of(p, power)
                    self.assertIs(type(caught.exception), TooMany)
                    self.assertEqual(caught.exception.value, many)

    def test_powers_out_of_bounds(self):
        for p in PRIMES:
            for power in [0, 7, -1, True, 60]:
                with self.assertRaises(InvalidNumber) as caught:
                    primes_of(p, power)
                self.assertIs(caught.exception.value, power)

    def test_greatest_lists_within_seconds(self):
        start = time.perf_counter()
        for p, power in [(3, 6), (5, 5), (7, 4)]:
            primes_of(p, power)
        self.assertLess(time.perf_counter() - start, 10)


class FactorsTest(unittest.TestCase):
    def test_product_of_primes_in_order(self):
        for p in PRIMES:
            for modulus in all_moduli(p):
                found = factors(p, modulus)
                whole = [1]
                for prime, many in found:
                    self.assertIn(prime, sieved_primes(p, len(prime) - 1))
                    self.assertGreaterEqual(many, 1)
                    for _ in range(many):
                        whole = times(p, whole, prime)
                self.assertEqual(whole, modulus)
                primes = [prime for prime, _ in found]
                self.assertEqual(primes, sorted(primes))
                self.assertEqual(len(primes), len({tuple(prime) for prime in primes}))

    def test_kinds(self):
        for prime, many in factors(5, [0, 0, 1, 1]):
            self.assertIs(type(prime), list)
            self.assertIs(type(many), int)
        self.assertIs(type(factors(5, [0, 1])[0]), tuple)

    def test_told_by_hand(self):
        self.assertEqual(factors(3, [0, 1]), [([0, 1], 1)])
        self.assertEqual(factors(7, [4, 1]), [([4, 1], 1)])
        self.assertEqual(factors(3, [0, 0, 0, 0, 1]), [([0, 1], 4)])
        self.assertEqual(factors(5, [0, 0, 0, 1]), [([0, 1], 3)])
        self.assertEqual(factors(5, [1, 3, 3, 1]), [([1, 1], 3)])
        self.assertEqual(factors(3, [1, 0, 2, 0, 1]), [([1, 0, 1], 2)])
        self.assertEqual(factors(5, [1, 0, 1]), [([2, 1], 1), ([3, 1], 1)])
        self.assertEqual(factors(7, [1, 0, 1]), [([1, 0, 1], 1)])

    def test_order_is_that_of_lists_not_of_powers(self):
        self.assertEqual(factors(3, [1, 1, 1, 1]), [([1, 0, 1], 1), ([1, 1], 1)])
        self.assertEqual(factors(3, times(3, [1, 0, 1], [1, 2, 1])), [([1, 0, 1], 1), ([1, 1], 2)])

    def test_all_moduli_within_seconds(self):
        start = time.perf_counter()
        for p in PRIMES:
            for modulus in monics(p, MODULUS_POWERS[p]):
                factors(p, modulus)
        self.assertLess(time.perf_counter() - start, 10)


class AnyValueTest(unittest.TestCase):
    def test_tellers_take_any_value(self):
        for value in any_values():
            self.assertIs(is_modulus(3, value), False)
            self.assertIs(is_prime(3, value), False)


_KEPT = {}


def sieved_primes(p, power):
    """The sieve, kept: the loop over all moduli asks for the same ones again and again."""
    if (p, power) not in _KEPT:
        _KEPT[p, power] = sieved(p, power)
    return _KEPT[p, power]


if __name__ == "__main__":
    unittest.main()
