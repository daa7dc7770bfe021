"""Promises [15] to [18]: rows of zeros."""

import time
import unittest

from modulusfields.primes import factors
from modulusfields.zeros import lean_row, own_row, own_value, put_in, row_product
from tests.support import (
    MODULUS_POWERS, PRIMES, SIXTH, all_moduli, by, free_by, monic_divisors, plus, put_by, rest, rests_by, row_put,
    row_times, sieved, some_moduli, taken, times, told_deed, wide,
)

X = [[], [1]]


def within(p):
    """All moduli of at most 60 free rests: those that are free are counted by the primes."""
    found = []
    for modulus in all_moduli(p):
        many = 1
        for prime, count in factors(p, modulus):
            size = p ** (len(prime) - 1)
            many *= (size - 1) * size ** (count - 1)
        if many <= 60:
            found.append((modulus, many))
    return found


def some_rows(p):
    """Rows in `X`: nought, numbers, noughts within."""
    return [
        [], [[1]], [[p - 1]], [[0, 1]], X, [[], [], [1]], [[1], [2, 1]], [[2], [], [0, 0, 1]], [[], [1, 1], [], [2]],
        [[1], [1], [1, 2, 1]], [[0, 2, 1], [1]],
    ]


def value_by(p, prime, row, one):
    """What comes by a prime if a rest is put in the place of `X` in a row: each power of the rest by itself."""
    result, power = [], [1]
    for item in row:
        result = plus(p, result, rest(p, times(p, item, power), prime))
        power = rest(p, times(p, power, one), prime)
    return result


def own_zeros(p, modulus, prime):
    """The rests by a prime that the deed of a modulus, but that of no divisor of lower power, makes nought."""
    found = []
    lesser = [told_deed(p, one) for one in monic_divisors(p, modulus)[:-1]]
    whole = told_deed(p, modulus)
    for one in rests_by(p, prime):
        if put_by(p, prime, whole, one) == [] and all(put_by(p, prime, less, one) != [] for less in lesser):
            found.append(one)
    return found


class OwnRowTest(unittest.TestCase):
    def test_product_over_all_divisors_is_the_deed_row(self):
        for p in PRIMES:
            for modulus in [one for one, _ in within(p)] + [[2, 0, 0, 1, 1]] * (p == 3):
                row = X
                for divisor in monic_divisors(p, modulus)[1:]:
                    row = row_times(p, row, own_row(p, divisor))
                self.assertEqual(row, wide(p, told_deed(p, modulus)), modulus)

    def test_power_and_last_item(self):
        for p in PRIMES:
            for modulus, many in within(p):
                row = own_row(p, modulus)
                self.assertEqual(len(row) - 1, many)
                self.assertEqual(row[-1], [1])
            for modulus in some_moduli(p):
                self.assertEqual(len(own_row(p, modulus)) - 1, len(free_by(p, modulus)))

    def test_modulus_of_power_one(self):
        for p in PRIMES:
            for number in range(p):
                self.assertEqual(own_row(p, [number, 1]), [[number, 1]] + [[]] * (p - 2) + [[1]])

    def test_prime_taken_several_times(self):
        for p in PRIMES:
            row = own_row(p, [0, 1])
            for count in range(2, MODULUS_POWERS[p] + 1):
                row = row_put(p, row, wide(p, told_deed(p, [0, 1])))
                if len(row) <= 61:
                    self.assertEqual(own_row(p, [0] * count + [1]), row)

    def test_lean_rows(self):
        for p in PRIMES:
            for modulus, _ in within(p):
                row = own_row(p, modulus)
                lean = lean_row(p, modulus)
                self.assertEqual((len(lean) - 1) * (p - 1), len(row) - 1)
                for place, item in enumerate(row):
                    self.assertEqual(item, lean[place // (p - 1)] if place % (p - 1) == 0 else [])

    def test_first_item(self):
        for p in PRIMES:
            for modulus, _ in within(p):
                row, primes = own_row(p, modulus), factors(p, modulus)
                if len(primes) == 1:
                    prime = primes[0][0]
                    self.assertEqual(row[0], prime)
                    self.assertTrue(all(rest(p, item, prime) == [] for item in row[:-1]))
                else:
                    self.assertEqual(row[0], [1])

    def test_greatest_within_seconds(self):
        start = time.perf_counter()
        greatest = [(3, [0, 0, 0, 0, 1]), (3, [0, 0, 2, 0, 1]), (3, [0, 1, 0, 1, 1]), (7, [1, 0, 1]), (5, [2, 0, 1])]
        for p, modulus in greatest:
            own_row(p, modulus)
            lean_row(p, modulus)
        self.assertLess(time.perf_counter() - start, 10)


class ProductTest(unittest.TestCase):
    def test_products(self):
        for p in PRIMES:
            for one in some_rows(p):
                for other in some_rows(p):
                    self.assertEqual(row_product(p, one, other), row_times(p, one, other))

    def test_bounds(self):
        for p in PRIMES:
            long = [[] for _ in range(100)] + [[1]]
            high = [[0] * 200 + [2]]
            self.assertEqual(row_product(p, long, high), long[:100] + high)
            self.assertEqual(row_product(p, high, long), long[:100] + high)
            self.assertEqual(row_product(p, long, []), [])

    def test_limits_within_seconds(self):
        start = time.perf_counter()
        for p in PRIMES:
            row = [[1] * 41] * 41
            found = row_product(p, row, row)
            square = times(p, [1] * 41, [1] * 41)
            for place, item in enumerate(found):
                many = min(place, 80 - place) + 1
                self.assertEqual(item, [] if many % p == 0 else [many * number % p for number in square])
        self.assertLess(time.perf_counter() - start, 10)


class PutInTest(unittest.TestCase):
    def test_against_powers_of_the_deed_row(self):
        for p in PRIMES:
            for modulus in [[0, 1], [2, 1], [1, 0, 1]]:
                inner = wide(p, told_deed(p, modulus))
                for row in some_rows(p):
                    if (len(row) - 1) * (len(inner) - 1) <= 100:
                        self.assertEqual(put_in(p, row, modulus), row_put(p, row, inner))

    def test_nought_numbers_and_x(self):
        for p in PRIMES:
            for modulus in some_moduli(p):
                self.assertEqual(put_in(p, [], modulus), [])
                self.assertEqual(put_in(p, [[2, 1]], modulus), [[2, 1]])
                if p ** (len(modulus) - 1) <= 100:
                    self.assertEqual(put_in(p, X, modulus), wide(p, told_deed(p, modulus)))

    def test_own_rows_and_primes(self):
        for p in PRIMES:
            for modulus, many in within(p):
                for prime in sieved(p, 1) + sieved(p, 2)[:2]:
                    more = times(p, modulus, prime)
                    if len(more) - 1 <= MODULUS_POWERS[p] and many * p ** (len(prime) - 1) <= 100:
                        made = own_row(p, more)
                        if rest(p, modulus, prime) != []:
                            made = row_times(p, made, own_row(p, modulus))
                        self.assertEqual(put_in(p, own_row(p, modulus), prime), made)

    def test_limits_within_seconds(self):
        start = time.perf_counter()
        for p in PRIMES:
            high = [1] * 201
            found = put_in(p, [high] * (100 // p + 1), [2, 1])
            self.assertEqual(len(found), 100 // p * p + 1)
            self.assertEqual(found[-1], high)
            self.assertEqual(found[1], times(p, high, [2, 1]))
        self.assertEqual(put_in(3, [[], [0] * 200 + [1]], [0, 0, 0, 0, 1])[81], [0] * 200 + [1])
        self.assertLess(time.perf_counter() - start, 10)


class OwnValueTest(unittest.TestCase):
    def test_against_the_own_row(self):
        for p in PRIMES:
            for modulus in some_moduli(p):
                for prime in [[0, 1], [1, 1], sieved(p, 2)[0], sieved(p, 3)[0]]:
                    row = own_row(p, modulus)
                    for one in rests_by(p, prime)[::5]:
                        self.assertEqual(own_value(p, modulus, prime, one), value_by(p, prime, row, one))

    def test_zeros(self):
        for p, modulus, power in [(3, [0, 1], 3), (3, [0, 0, 1], 4), (3, [1, 0, 1], 3), (5, [1, 1], 2), (7, [2, 1], 2)]:
            told = {}
            for prime in [one for n in range(1, power + 1) for one in sieved(p, n)]:
                if rest(p, modulus, prime) != []:
                    zeros = [one for one in rests_by(p, prime) if own_value(p, modulus, prime, one) == []]
                    self.assertEqual(zeros, own_zeros(p, modulus, prime))
                    first = rest(p, prime, modulus) == [1]
                    self.assertEqual(len(zeros), len(free_by(p, modulus)) if first else 0)
                    told[first] = True
            self.assertEqual(len(told), 2)

    def test_prime_within_the_modulus(self):
        cases = [
            (3, [0, 1], 1, [1, 1]), (3, [0, 1], 2, [1, 1]), (3, [0, 1], 1, [1, 0, 1]), (3, [1, 0, 1], 1, [0, 1]),
            (3, [0, 1], 2, [1, 0, 1]), (5, [0, 1], 1, [2, 1]), (7, [3, 1], 1, [0, 1]),
        ]
        for p, prime, count, other in cases:
            power = taken(p, prime, count)
            many = len(free_by(p, power))
            for one in rests_by(p, prime):
                value = own_value(p, other, prime, one)
                made = [1]
                for _ in range(many):
                    made = rest(p, times(p, made, value), prime)
                self.assertEqual(own_value(p, times(p, power, other), prime, one), made)
                # Without another factor it is X, so many times.
                self.assertEqual(own_value(p, power, prime, one), rest(p, taken(p, one, many), prime))

    def test_row_by_the_prime(self):
        for p in PRIMES:
            for modulus in some_moduli(p):
                prime = sieved(p, 2)[-1]
                row = by(p, prime, own_row(p, modulus))
                self.assertEqual(own_value(p, modulus, prime, []), row[0])
                total = []
                for item in row:
                    total = plus(p, total, item)
                self.assertEqual(own_value(p, modulus, prime, [1]), total)

    def test_greatest_within_seconds(self):
        start = time.perf_counter()
        for p, modulus in [(3, [0, 0, 0, 0, 1]), (5, [2, 0, 1]), (7, [1, 0, 1])]:
            row = own_row(p, modulus)
            for one in [[], [1], [0, 1, 2, 1, 0, 2], [1] * 6]:
                self.assertEqual(own_value(p, modulus, SIXTH[p], one), value_by(p, SIXTH[p], row, one))
        self.assertLess(time.perf_counter() - start, 10)


if __name__ == "__main__":
    unittest.main()
