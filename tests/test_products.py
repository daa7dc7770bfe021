"""Promises [12] to [14]: products of all polynomials, and lists told by the items of deeds."""

import time
import unittest
from functools import reduce
from itertools import product

from modulusfields.products import lower_row, lower_value, monic_multiple, monic_product, summed, through
from tests.support import (
    MODULUS_POWERS, PRIMES, minus, monics, plus, quotient, rest, rests_by, row_times, sieved, taken, times, told_deed,
    wide,
)

# The greatest powers that the section lets for `p`.
POWERS = {3: 3, 5: 2, 7: 2}


def powers():
    return [(p, power) for p in PRIMES for power in range(POWERS[p] + 1)]


def lower(p, power):
    """All polynomials of lower powers, nought among them."""
    return rests_by(p, [0] * power + [1])


def product_of(p, polynomials):
    return reduce(lambda one, other: times(p, one, other), polynomials, [1])


def some_polynomials(p):
    """Polynomials of each power that a deed may have, nought among them."""
    found = [[]]
    for power in range(MODULUS_POWERS[p] + 1):
        found += [[0] * power + [1], [0] * power + [p - 1], [2] * power + [1], [k % p for k in range(power)] + [2]]
    return found


def some_lists(p):
    """Lists of polynomials such as `through` takes, of each length."""
    found = []
    for length in range(1, MODULUS_POWERS[p] + 2):
        found += [
            [[]] * length, [[1]] * length, [[]] * (length - 1) + [[1]], [[1]] + [[]] * (length - 1),
            [[0] * k + [1] for k in range(length)], [[(k * n + 1) % p for n in range(k)] + [2] for k in range(length)],
            [[1, 2] * 100 + [1]] * length, [[], [0] * 200 + [p - 1]][-length:] + [[2, 1]] * (length - 2),
        ]
    return found


class MonicTest(unittest.TestCase):
    def test_product_one_by_one(self):
        for p, power in powers():
            self.assertEqual(monic_product(p, power), product_of(p, monics(p, power)))

    def test_product_as_the_document_tells(self):
        for p, power in powers():
            factors = [minus(p, [0] * p ** power + [1], [0] * p ** below + [1]) for below in range(power)]
            self.assertEqual(monic_product(p, power), product_of(p, factors))
            self.assertEqual(len(monic_product(p, power)) - 1, power * p ** power)

    def test_multiple_of_all_and_the_least_one(self):
        for p, power in powers():
            found = monic_multiple(p, power)
            for one in monics(p, power):
                self.assertEqual(rest(p, found, one), [])
            # A prime of the power d divides some monic polynomial of the power n n // d times, and none more often.
            primes = [prime for d in range(1, power + 1) for prime in sieved(p, d)]
            self.assertEqual(found, product_of(p, [taken(p, one, power // (len(one) - 1)) for one in primes]))

    def test_multiple_as_the_document_tells(self):
        for p, power in powers():
            factors = [minus(p, [0] * p ** j + [1], [0, 1]) for j in range(1, power + 1)]
            self.assertEqual(monic_multiple(p, power), product_of(p, factors))

    def test_power_nought_and_one(self):
        for p in PRIMES:
            self.assertEqual(monic_product(p, 0), [1])
            self.assertEqual(monic_multiple(p, 0), [1])
            self.assertEqual(monic_product(p, 1), [0, p - 1] + [0] * (p - 2) + [1])
            self.assertEqual(monic_multiple(p, 1), [0, p - 1] + [0] * (p - 2) + [1])


class LowerTest(unittest.TestCase):
    def test_row_one_by_one(self):
        for p, power in powers():
            row = [[1]]
            for one in lower(p, power):
                row = row_times(p, row, [minus(p, [], one), [1]])
            self.assertEqual(wide(p, lower_row(p, power)), row)

    def test_row_of_power_nought_and_one(self):
        for p in PRIMES:
            self.assertEqual(lower_row(p, 0), [[1]])
            self.assertEqual(lower_row(p, 1), [[p - 1], [1]])

    def test_row_has_a_last_item_1(self):
        for p, power in powers():
            self.assertEqual(len(lower_row(p, power)), power + 1)
            self.assertEqual(lower_row(p, power)[-1], [1])

    def test_value_one_by_one(self):
        for p, power in powers():
            for polynomial in some_polynomials(p):
                factors = [minus(p, polynomial, one) for one in lower(p, power)]
                self.assertEqual(lower_value(p, power, polynomial), product_of(p, factors))

    def test_nought_exactly_for_nought_and_lower_powers(self):
        for p, power in powers():
            for polynomial in rests_by(p, [0] * min(3, MODULUS_POWERS[p]) + [1]):
                found = lower_value(p, power, polynomial)
                self.assertEqual(found == [], len(polynomial) - 1 < power, polynomial)
                if len(polynomial) - 1 == power and polynomial[-1] == 1:
                    self.assertEqual(found, monic_product(p, power))

    def test_item_of_the_deed(self):
        for p, power in powers():
            for polynomial in some_polynomials(p):
                items = told_deed(p, polynomial)
                item = items[power] if power < len(items) else []
                self.assertEqual(quotient(p, lower_value(p, power, polynomial), monic_product(p, power)), item)


class ThroughTest(unittest.TestCase):
    def test_parts_tell_the_values(self):
        for p in PRIMES:
            for values in some_lists(p):
                parts = through(p, values)
                self.assertEqual(len(parts), len(values))
                for i, value in enumerate(values):
                    total = []
                    for k, item in enumerate(told_deed(p, [0] * i + [1])):
                        total = plus(p, total, times(p, parts[k], item))
                    self.assertEqual(total, value)
                    if all(len(part) <= 201 for part in parts):
                        self.assertEqual(summed(p, parts, [0] * i + [1]), value)

    def test_values_tell_the_parts(self):
        for p in PRIMES:
            for parts in some_lists(p):
                values = []
                for i in range(len(parts)):
                    items = told_deed(p, [0] * i + [1])
                    values.append([])
                    for part, item in zip(parts, items):
                        values[i] = plus(p, values[i], times(p, part, item))
                if all(len(value) <= 201 for value in values):
                    self.assertEqual(through(p, values), parts)

    def test_one_value(self):
        for p in PRIMES:
            for value in [[], [1], [0, 2], [1] * 201]:
                self.assertEqual(through(p, [value]), [value])
                self.assertEqual(summed(p, [value], [2]), [2 * number % p for number in value])

    def test_told_by_hand(self):
        # T ** 2 has the deed [T ** 2, T + T ** p, 1].
        for p in PRIMES:
            self.assertEqual(through(p, [[1], [0, 1], [0, 0, 1]]), [[1], [], []])
            self.assertEqual(through(p, [[], [1], [0, 1]]), [[], [1], [0] * p + [p - 1]])

    def test_greatest_lists(self):
        for p in PRIMES:
            values = [[1, 2] * 100 + [1]] * (MODULUS_POWERS[p] + 1)
            self.assertEqual(len(through(p, values)), MODULUS_POWERS[p] + 1)


class SummedTest(unittest.TestCase):
    def test_against_the_deed(self):
        for p in PRIMES:
            for parts in some_lists(p):
                for polynomial in some_polynomials(p):
                    total = []
                    for part, item in zip(parts, told_deed(p, polynomial)):
                        total = plus(p, total, times(p, part, item))
                    self.assertEqual(summed(p, parts, polynomial), total)

    def test_sum_of_what_the_powers_of_t_have(self):
        for p in PRIMES:
            for parts in some_lists(p):
                for polynomial in some_polynomials(p):
                    total = []
                    for k, number in enumerate(polynomial):
                        total = plus(p, total, times(p, summed(p, parts, [0] * k + [1]), [number] if number else []))
                    self.assertEqual(summed(p, parts, polynomial), total)

    def test_places_of_one_list_only(self):
        for p in PRIMES:
            self.assertEqual(summed(p, [[1]], [0, 0, 1]), [0, 0, 1])
            self.assertEqual(summed(p, [[], [], [1, 1]], [0, 1]), [])
            self.assertEqual(summed(p, [[2], [], [1, 1]], [0, 1]), [0, 2])
            self.assertEqual(summed(p, [[1], [1], [1]], []), [])

    def test_all_short_lists(self):
        items = [[], [1], [2], [0, 1], [1, 2]]
        for parts in product(items, repeat=2):
            for polynomial in lower(3, 2):
                value = plus(3, times(3, parts[0], polynomial), times(3, parts[1], polynomial[1:]))
                self.assertEqual(summed(3, list(parts), polynomial), value)


class SecondsTest(unittest.TestCase):
    def test_greatest_values_within_seconds(self):
        start = time.perf_counter()
        for p in PRIMES:
            power, greatest = POWERS[p], [1] * (MODULUS_POWERS[p] + 1)
            values = [[2] * 201] * (MODULUS_POWERS[p] + 1)
            monic_product(p, power)
            monic_multiple(p, power)
            lower_row(p, power)
            made = times(p, monic_product(p, power), told_deed(p, greatest)[power])
            self.assertEqual(lower_value(p, power, greatest), made)
            through(p, values)
            summed(p, values, greatest)
        self.assertLess(time.perf_counter() - start, 10)


if __name__ == "__main__":
    unittest.main()
