"""Promises [9] to [11]: deeds of polynomials and short rows."""

import time
import unittest

from modulusfields.deeds import acted, deed, is_short, short_put, short_sum, unlike_place
from modulusfields.primes import is_prime
from tests.support import (
    FOURTH, MODULUS_POWERS, PRIMES, SIXTH, any_values, bad_polynomials, cut, free_by, minus, plus, put_by, rest,
    rests_by, sieved, some_moduli, taken, times, told_deed,
)

SHORT_POWER = 2000


def short_polynomials(p):
    """All polynomials of a power of at most 2, for p = 3 of the greatest power that a deed may have."""
    return rests_by(p, [0] * (5 if p == 3 else 3) + [1])


def greatest_polynomials(p):
    """Some polynomials of the greatest power that a deed may have."""
    power = MODULUS_POWERS[p]
    return [[0] * power + [1], [1] * (power + 1), [p - 1] * power + [2], [(k * k + 2) % p for k in range(power)] + [1]]


def some_primes(p):
    return [sieved(p, 1)[0], sieved(p, 1)[-1], sieved(p, 2)[1], sieved(p, 3)[2]]


def put_plainly(p, one, other):
    """A short row with another one in the place of `X`: each item of the other one is taken as a factor."""
    if not one or not other:
        return []
    items = [[] for _ in range(len(one) + len(other) - 1)]
    for k, item in enumerate(one):
        for n, inner in enumerate(other):
            items[k + n] = plus(p, items[k + n], times(p, item, taken(p, inner, p ** k)))
    return items


def some_shorts(p):
    """Short rows: nought, one item, noughts within, several items."""
    return [
        [], [[1]], [[p - 1]], [[0, 1]], [[], [1]], [[], [], [0, 2]], [[0, 1], [1]], [[1], [1, 1]], [[2, 1], [], [1]],
        [[1, 0, 2], [2], [0, 1]], [[0, 1], [p - 1]], [[], [1, 2], [2, 2, 1]],
    ]


class DeedTest(unittest.TestCase):
    def test_told_by_hand(self):
        for p in PRIMES:
            self.assertEqual(deed(p, []), [])
            self.assertEqual(deed(p, [0, 1]), [[0, 1], [1]])
            for number in range(1, p):
                self.assertEqual(deed(p, [number]), [[number]])
                self.assertEqual(deed(p, [number, 1]), [[number, 1], [1]])

    def test_items_as_the_document_makes_them(self):
        for p in PRIMES:
            for polynomial in short_polynomials(p) + greatest_polynomials(p):
                self.assertEqual(deed(p, polynomial), told_deed(p, polynomial))

    def test_powers_first_and_last(self):
        for p in PRIMES:
            for polynomial in short_polynomials(p) + greatest_polynomials(p):
                items = deed(p, polynomial)
                power = len(polynomial) - 1
                self.assertEqual([len(item) - 1 for item in items], [(power - k) * p ** k for k in range(power + 1)])
                if polynomial:
                    self.assertEqual(items[0], polynomial)
                    self.assertEqual(items[-1], [polynomial[-1]])

    def test_deed_of_a_sum(self):
        for p in PRIMES:
            some = short_polynomials(p)
            for one in some[::7] + greatest_polynomials(p):
                for other in some[::11] + greatest_polynomials(p):
                    made = short_sum(p, deed(p, one), deed(p, other))
                    self.assertEqual(made, deed(p, plus(p, one, other)))

    def test_deed_of_a_product_whichever_way_round(self):
        for p in PRIMES:
            some = rests_by(p, [0] * (2 if p == 7 else 3) + [1])
            for one in some:
                for other in some[::3]:
                    product = times(p, one, other)
                    if len(product) <= MODULUS_POWERS[p] + 1:
                        self.assertEqual(short_put(p, deed(p, one), deed(p, other)), deed(p, product))
                        self.assertEqual(short_put(p, deed(p, other), deed(p, one)), deed(p, product))


class ShortTest(unittest.TestCase):
    def test_short_rows(self):
        for p in PRIMES:
            for short in some_shorts(p):
                self.assertIs(is_short(p, short), True)
            self.assertIs(is_short(p, [[1]] * 8), True)
            self.assertIs(is_short(p, [[0] * SHORT_POWER + [1]] * 8), True)
            self.assertIs(is_short(p, [[]] * 7 + [[1]]), True)

    def test_not_short_rows(self):
        for p in PRIMES:
            for value in any_values() + [
                [[1]] * 9, [[]] * 8 + [[1]], [[0] * (SHORT_POWER + 1) + [1]], [[0] * (SHORT_POWER + 1) + [1], [1]],
                [[]], [[], []], [[1], []], [[0, 1], [], []], [1], [0, 1], ([1],), [(1,)], [[1], (1,)], "1", {0: [1]},
                [[1], None], [[True]], [[1], [1, True]], [[False, 1]],
            ] + [[value] for value in bad_polynomials(p)] + [[value, [1]] for value in bad_polynomials(p)]:
                self.assertIs(is_short(p, value), False, value)

    def test_sums(self):
        for p in PRIMES:
            for one in some_shorts(p):
                for other in some_shorts(p):
                    length = max(len(one), len(other))
                    items = [
                        plus(p, one[k] if k < len(one) else [], other[k] if k < len(other) else [])
                        for k in range(length)
                    ]
                    self.assertEqual(short_sum(p, one, other), cut(items, []))
                opposite = [[-number % p for number in item] for item in one]
                self.assertEqual(short_sum(p, one, opposite), [])

    def test_one_put_in_the_other(self):
        for p in PRIMES:
            for one in some_shorts(p):
                for other in some_shorts(p):
                    self.assertEqual(short_put(p, one, other), put_plainly(p, one, other))

    def test_nought_and_one_put_in(self):
        for p in PRIMES:
            for short in some_shorts(p):
                self.assertEqual(short_put(p, short, []), [])
                self.assertEqual(short_put(p, [], short), [])
                self.assertEqual(short_put(p, short, [[1]]), short)
                self.assertEqual(short_put(p, [[1]], short), short)

    def test_put_in_by_a_prime(self):
        for p in PRIMES:
            prime = sieved(p, 2)[0]
            for one in some_shorts(p):
                for other in some_shorts(p):
                    made = short_put(p, one, other)
                    for item in rests_by(p, prime)[:9]:
                        inner = put_by(p, prime, other, item)
                        self.assertEqual(put_by(p, prime, made, item), put_by(p, prime, one, inner))

    def test_limits_within_seconds(self):
        start = time.perf_counter()
        for p in PRIMES:
            half = [(k * k + 1) % p for k in range(1000)] + [1]
            self.assertEqual(len(short_put(p, [half], [half] * 8)[7]), SHORT_POWER + 1)
            third = half[:1000 // p] + [1]
            made = short_put(p, [half, half], [third] * 7)
            self.assertEqual(len(made), 8)
            self.assertEqual(made[0], times(p, half, third))
            apart = [0 if k % p else third[k // p] for k in range(len(third) * p - p + 1)]
            self.assertEqual(made[7], times(p, half, apart))
            long = [[1] * (SHORT_POWER + 1)] * 8
            self.assertEqual(short_sum(p, long, long), [[2] * (SHORT_POWER + 1)] * 8)
            self.assertEqual(unlike_place(p, long[:7]), 1)
            self.assertEqual(short_put(p, [[]] * 7 + [[1]], [[0, 1]]), [[]] * 7 + [[0] * p ** 7 + [1]])
        self.assertLess(time.perf_counter() - start, 10)


class UnlikePlaceTest(unittest.TestCase):
    def test_against_both_ways(self):
        for p in PRIMES:
            for short in some_shorts(p):
                one = put_plainly(p, [[0, 1], [1]], short)
                other = put_plainly(p, short, [[0, 1], [1]])
                places = [
                    k for k in range(max(len(one), len(other)))
                    if (one[k] if k < len(one) else []) != (other[k] if k < len(other) else [])
                ]
                self.assertEqual(unlike_place(p, short), places[0] if places else None, short)

    def test_none_for_deeds(self):
        for p in PRIMES:
            for polynomial in short_polynomials(p) + greatest_polynomials(p):
                self.assertIsNone(unlike_place(p, deed(p, polynomial)))

    def test_none_for_no_other_short_rows(self):
        items = rests_by(3, [0] * 3 + [1])
        deeds = [deed(3, polynomial) for polynomial in items]
        for first in items:
            for second in items:
                short = cut([first, second], [])
                self.assertIs(unlike_place(3, short) is None, short in deeds, short)

    def test_each_place(self):
        for p in PRIMES:
            whole = deed(p, [1, 1] if p == 7 else [1, 1, 1])
            for place in range(1, len(whole)):
                changed = [plus(p, item, [1] if k == place else []) for k, item in enumerate(whole)]
                if changed[-1]:
                    self.assertEqual(unlike_place(p, changed), place)
            self.assertEqual(unlike_place(p, whole + [[1]]), len(whole))
            self.assertEqual(unlike_place(p, [[]] * 5 + [[1]]), 5)


class ActedTest(unittest.TestCase):
    def test_against_the_deed(self):
        for p in PRIMES:
            for prime in some_primes(p):
                rests = rests_by(p, prime)
                for polynomial in short_polynomials(p)[::5] + greatest_polynomials(p):
                    short = told_deed(p, polynomial)
                    for one in rests[:5] + rests[-5:]:
                        self.assertEqual(acted(p, prime, polynomial, one), put_by(p, prime, short, one))

    def test_nought_numbers_and_t(self):
        for p in PRIMES:
            for prime in some_primes(p):
                for one in rests_by(p, prime)[:30]:
                    self.assertEqual(acted(p, prime, [], one), [])
                    self.assertEqual(acted(p, prime, [0, 1], []), [])
                    self.assertEqual(acted(p, prime, [1], one), one)
                    self.assertEqual(acted(p, prime, [2], one), [2 * number % p for number in one])
                    turned = plus(p, times(p, [0, 1], one), taken(p, one, p))
                    self.assertEqual(acted(p, prime, [0, 1], one), rest(p, turned, prime))

    def test_deed_of_the_prime_by_itself(self):
        for p in PRIMES:
            for prime in [one for power in range(1, MODULUS_POWERS[p] + 1) for one in sieved(p, power)[:4]]:
                items = [rest(p, item, prime) for item in deed(p, prime)]
                self.assertEqual(items, [[]] * (len(prime) - 1) + [[1]])

    def test_prime_leaves_and_prime_less_one_kills(self):
        for p in PRIMES:
            for prime in some_primes(p) + [FOURTH[p]]:
                rests = rests_by(p, prime)
                for one in rests[:20] + rests[-20:]:
                    self.assertEqual(acted(p, prime, prime, one), one)
                    self.assertEqual(acted(p, prime, minus(p, prime, [1]), one), [])
                    self.assertEqual(acted(p, prime, times(p, prime, prime), one), one)

    def test_sums(self):
        for p in PRIMES:
            prime = sieved(p, 2)[-1]
            rests = rests_by(p, prime)
            for polynomial in greatest_polynomials(p):
                for one in rests[::3]:
                    for other in rests[::4]:
                        made = plus(p, acted(p, prime, polynomial, one), acted(p, prime, polynomial, other))
                        self.assertEqual(acted(p, prime, polynomial, plus(p, one, other)), made)

    def test_powers_above_those_of_deeds(self):
        for p in PRIMES:
            for prime in some_primes(p):
                less = minus(p, prime, [1])
                for power in [MODULUS_POWERS[p] + 1, 10, 59, 60]:
                    polynomial = [(3 * k * k + k + power) % p for k in range(power)] + [p - 1]
                    for one in rests_by(p, prime)[-9:]:
                        # Multiples of the prime less 1 make nought, so the rest by that one does the same.
                        made = acted(p, prime, rest(p, polynomial, less), one)
                        self.assertEqual(acted(p, prime, polynomial, one), made)

    def test_products_act_one_behind_the_other(self):
        for p in PRIMES:
            prime = sieved(p, 3)[-1]
            for one in greatest_polynomials(p):
                for other in [[0, 1], [1, 2], [1, 0, 1], [0] * 50 + [1]]:
                    for item in rests_by(p, prime)[-5:]:
                        made = acted(p, prime, one, acted(p, prime, other, item))
                        self.assertEqual(acted(p, prime, times(p, one, other), item), made)

    def test_as_many_zeros_as_free_rests(self):
        for p in PRIMES:
            for modulus in some_moduli(p):
                found = [prime for power in (1, 2, 3) for prime in sieved(p, power) if rest(p, prime, modulus) == [1]]
                for prime in found[:1]:
                    zeros = [one for one in rests_by(p, prime) if acted(p, prime, modulus, one) == []]
                    self.assertEqual(len(zeros), p ** (len(modulus) - 1))
                    self.assertGreater(len(zeros), len(free_by(p, modulus)))

    def test_greatest_powers_within_seconds(self):
        self.assertTrue(all(is_prime(p, SIXTH[p]) and is_prime(p, FOURTH[p]) for p in PRIMES))
        start = time.perf_counter()
        for p in PRIMES:
            one = [1, 2, 0, 1, 2, 1]
            for _ in range(50):
                one = acted(p, SIXTH[p], [1] * 61, one)
            self.assertLess(len(one), 7)
            self.assertEqual(acted(p, SIXTH[p], minus(p, SIXTH[p], [1]), one), [])
        self.assertLess(time.perf_counter() - start, 10)


if __name__ == "__main__":
    unittest.main()
