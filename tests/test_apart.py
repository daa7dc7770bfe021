"""Promises [19] to [21]: rows by a prime."""

import time
import unittest

from modulusfields.apart import apart, apart_kind, is_apart, leader, led, row_by, zeros_by
from modulusfields.zeros import own_row
from tests.support import (
    FOURTH, PRIMES, SIXTH, any_values, bad_polynomials, by, free_by, minus, monic_rows, plus, put_by, quotient, rest,
    rests_by, row_put, row_put_rest, row_rest, row_times, sieved, some_pairs, taken, times, told_deed, wide,
)
from tests.test_zeros import own_zeros, value_by

# Pairs at the limit: at most 60 free rests, and these times the power of the prime at most 240.
GREATEST = [
    (3, [0, 0, 0, 0, 1], FOURTH[3]), (3, [0, 0, 1, 0, 1], [2, 1, 0, 1, 2, 1]), (3, [2, 0, 1, 1, 1], [1, 2, 1, 1, 1, 1]),
    (3, [2, 0, 2, 1, 1], [2, 2, 1, 1, 1]), (3, [1, 1, 2, 0, 1], [0, 1]), (3, [1, 0, 0, 1], SIXTH[3]),
    (3, [2, 2, 0, 1], SIXTH[3]), (3, [0, 1, 0, 0, 1], FOURTH[3]), (5, [2, 0, 1], SIXTH[5]), (5, [0, 0, 1], SIXTH[5]),
    (7, [1, 0, 1], [5, 0, 4, 0, 0, 1]), (7, [0, 0, 1], [5, 0, 4, 0, 0, 1]), (7, [0, 1, 1], SIXTH[7]),
]


def parts_of(p, modulus, prime):
    """How often a prime divides a modulus, and the quotient that it doesn't divide."""
    count, left = 0, modulus
    while rest(p, left, prime) == []:
        count, left = count + 1, quotient(p, left, prime)
    return count, left


def told_kind(p, modulus, prime):
    """The kind as the document tells it."""
    count, left = parts_of(p, modulus, prime)
    free = 1 if left == [1] else len(free_by(p, left))
    order, reached = 1, rest(p, prime, left)
    while left != [1] and reached != [1]:
        order, reached = order + 1, rest(p, times(p, reached, prime), left)
    return (free // order, order, len(free_by(p, taken(p, prime, count))) if count else 1)


def products_by(p, prime, one, other):
    return by(p, prime, row_times(p, one, other))


def whole_row(p, prime, rows, count):
    """The product of rows by a prime, each so many times."""
    found = [[1]]
    for row in rows:
        for _ in range(count):
            found = products_by(p, prime, found, row)
    return found


def is_lone(p, prime, row):
    """Whether no monic row of a lower power divides a monic row by a prime."""
    powers = range(1, (len(row) - 1) // 2 + 1)
    return len(row) > 1 and all(row_rest(p, prime, row, one) for power in powers for one in monic_rows(p, prime, power))


def led_by_words(p, modulus, prime, row, polynomial):
    """The rows that become a multiple of a row when the deed of a polynomial is put in the place of `X`."""
    inner = row_rest(p, prime, wide(p, told_deed(p, rest(p, polynomial, modulus))), row)
    rows = apart(p, modulus, prime)
    return [one for one in rows if row_put_rest(p, prime, one, inner, row) == []]


class KindTest(unittest.TestCase):
    def test_as_the_document_tells(self):
        for p, modulus, prime in some_pairs():
            kind = apart_kind(p, modulus, prime)
            self.assertIs(type(kind), tuple)
            self.assertEqual(kind, told_kind(p, modulus, prime), (p, modulus, prime))

    def test_told_by_hand(self):
        self.assertEqual(apart_kind(3, [0, 1], [0, 1]), (1, 1, 2))
        self.assertEqual(apart_kind(3, [0, 0, 0, 1], [0, 1]), (1, 1, 18))
        self.assertEqual(apart_kind(7, [0, 0, 1], [0, 1]), (1, 1, 42))
        self.assertEqual(apart_kind(3, [0, 0, 2, 1], [0, 1]), (2, 1, 6))
        self.assertEqual(apart_kind(3, [0, 0, 2, 1], [2, 1]), (1, 6, 2))
        self.assertEqual(apart_kind(3, [0, 0, 1, 1], [1, 1]), (2, 3, 2))
        self.assertEqual(apart_kind(5, [0, 1], [2, 1]), (1, 4, 1))
        self.assertEqual(apart_kind(3, [1, 0, 1], [1, 0, 1]), (1, 1, 8))

    def test_class_of_the_prime_tells_the_kind(self):
        for p, modulus, power in [(3, [0, 0, 1], 4), (3, [1, 0, 1], 4), (5, [0, 1, 1], 2), (7, [3, 1], 2)]:
            kinds = {}
            for prime in [one for n in range(1, power + 1) for one in sieved(p, n)]:
                if rest(p, modulus, prime) != []:
                    kind = apart_kind(p, modulus, prime)
                    place = tuple(rest(p, prime, modulus))
                    self.assertEqual(kinds.setdefault(place, kind), kind)
                    self.assertEqual(kind[1] == 1, place == (1,))
            self.assertGreater(len(kinds), 1)


class RowByTest(unittest.TestCase):
    def test_own_row_by_the_prime(self):
        for p, modulus, prime in some_pairs():
            row = row_by(p, modulus, prime)
            self.assertEqual(row, [rest(p, item, prime) for item in own_row(p, modulus)])
            self.assertEqual(row[-1], [1])

    def test_product_of_the_lone_rows(self):
        for p, modulus, prime in some_pairs():
            many, power, count = apart_kind(p, modulus, prime)
            rows = apart(p, modulus, prime)
            self.assertEqual(len(rows), many)
            self.assertEqual(rows, sorted(rows))
            self.assertEqual(len({repr(row) for row in rows}), many)
            for row in rows:
                self.assertEqual(len(row) - 1, power)
                self.assertEqual(row[-1], [1])
                self.assertTrue(all(len(item) < len(prime) for item in row))
            self.assertEqual(whole_row(p, prime, rows, count), row_by(p, modulus, prime), (p, modulus, prime))

    def test_rows_are_lone(self):
        tried = 0
        for p, modulus, prime in some_pairs():
            size = p ** (len(prime) - 1)
            rows = apart(p, modulus, prime)
            if size ** ((len(rows[0]) - 1) // 2) <= 100:
                tried += 1
                for row in rows:
                    self.assertTrue(is_lone(p, prime, row), (p, modulus, prime, row))
        self.assertGreater(tried, 25)

    def test_prime_that_is_all_of_the_modulus(self):
        for p in PRIMES:
            for prime in [[0, 1], [2, 1], sieved(p, 2)[0]]:
                self.assertEqual(apart(p, prime, prime), [[[], [1]]])
                self.assertEqual(zeros_by(p, prime, prime), [[]])
                many = p ** (len(prime) - 1) - 1
                self.assertEqual(row_by(p, prime, prime), [[] for _ in range(many)] + [[1]])
            self.assertEqual(apart(p, [0, 0, 1], [0, 1]), [[[], [1]]])

    def test_prime_within_the_modulus_leaves_the_other_part(self):
        for p, modulus, prime in some_pairs():
            count, left = parts_of(p, modulus, prime)
            if count and left != [1]:
                self.assertEqual(apart(p, modulus, prime), apart(p, left, prime))
                self.assertEqual(apart_kind(p, modulus, prime)[:2], apart_kind(p, left, prime)[:2])

    def test_limits_within_seconds(self):
        for p, modulus, prime in GREATEST:
            start = time.perf_counter()
            many, power, count = apart_kind(p, modulus, prime)
            rows = apart(p, modulus, prime)
            self.assertEqual([len(row) - 1 for row in rows], [power] * many)
            self.assertLessEqual(many * power * count, 60)
            self.assertLessEqual(many * power * count * (len(prime) - 1), 240)
            self.assertTrue(is_apart(p, modulus, prime, rows[-1]))
            one = leader(p, modulus, prime, rows[0], rows[-1])
            self.assertEqual(led(p, modulus, prime, rows[0], one), rows[-1])
            zeros_by(p, modulus, prime)
            row_by(p, modulus, prime)
            self.assertLess(time.perf_counter() - start, 10)
            self.assertEqual(whole_row(p, prime, rows, count), row_by(p, modulus, prime))


class IsApartTest(unittest.TestCase):
    def test_all_monic_rows(self):
        tried = 0
        for p, modulus, prime in some_pairs():
            _, power, _ = apart_kind(p, modulus, prime)
            if p ** ((len(prime) - 1) * power) <= 729:
                rows = apart(p, modulus, prime)
                for value in monic_rows(p, prime, power):
                    self.assertIs(is_apart(p, modulus, prime, value), value in rows, (p, modulus, prime, value))
                tried += 1
        self.assertGreater(tried, 20)

    def test_products_and_multiples_of_lone_rows(self):
        for p, modulus, prime in some_pairs():
            rows = apart(p, modulus, prime)
            for row in rows:
                self.assertIs(is_apart(p, modulus, prime, row), True)
                self.assertIs(is_apart(p, modulus, prime, [[2 * n % p for n in item] for item in row]), False)
                self.assertIs(is_apart(p, modulus, prime, row + [[1]]), False)
                self.assertIs(is_apart(p, modulus, prime, row + [[]]), False)
                self.assertIs(is_apart(p, modulus, prime, row[:-1]), False)
                self.assertIs(is_apart(p, modulus, prime, products_by(p, prime, row, row)), False)
                self.assertIs(is_apart(p, modulus, prime, products_by(p, prime, row, rows[0])), False)
                # In one class with an item of a lone row, but no rest.
                self.assertIs(is_apart(p, modulus, prime, [plus(p, row[0], prime)] + row[1:]), False)
                self.assertIs(is_apart(p, modulus, prime, [plus(p, item, prime) for item in row]), False)
                self.assertIs(is_apart(p, modulus, prime, tuple(row)), False)
                self.assertIs(is_apart(p, modulus, prime, [tuple(item) for item in row]), False)
                self.assertIs(is_apart(p, modulus, prime, row[:-1] + [[True]]), False)
                self.assertIs(is_apart(p, modulus, prime, row[:-1] + [[1, 0]]), False)

    def test_other_values(self):
        for value in any_values() + [[], [[]], [[1]], [1, 1], [[1], 1], [[1], None]] + bad_polynomials(3):
            self.assertIs(is_apart(3, [0, 1], [1, 1], value), False, value)
            self.assertIs(is_apart(3, [0, 1], [0, 1], value), False, value)
        for value in bad_polynomials(3):
            self.assertIs(is_apart(3, [0, 1], [1, 1], [value, [1]]), False, value)


class LedTest(unittest.TestCase):
    def test_as_the_document_tells(self):
        for p, modulus, prime in some_pairs():
            rows = apart(p, modulus, prime)
            if len(rows[0]) > 7:
                continue
            for row in rows[:2] + rows[-1:]:
                for one in free_by(p, modulus)[::4]:
                    self.assertEqual([led(p, modulus, prime, row, one)], led_by_words(p, modulus, prime, row, one))

    def test_one_behind_the_other(self):
        for p, modulus, prime in some_pairs():
            free, rows = free_by(p, modulus), apart(p, modulus, prime)
            for row in [rows[0], rows[-1]]:
                self.assertEqual(led(p, modulus, prime, row, [1]), row)
                for one in free[1::6]:
                    first = led(p, modulus, prime, row, one)
                    self.assertIn(first, rows)
                    for other in free[2::7]:
                        made = led(p, modulus, prime, row, times(p, one, other))
                        self.assertEqual(led(p, modulus, prime, first, other), made)

    def test_led_to_itself_exactly_by_powers_of_the_prime(self):
        for p, modulus, prime in some_pairs():
            _, left = parts_of(p, modulus, prime)
            alike, reached = [], rest(p, [1], left)
            while reached not in alike:
                alike.append(reached)
                reached = rest(p, times(p, reached, prime), left)
            row = apart(p, modulus, prime)[0]
            for one in free_by(p, modulus):
                itself = led(p, modulus, prime, row, one) == row
                self.assertIs(itself, rest(p, one, left) in alike, (p, modulus, prime, one))

    def test_each_row_is_reached_equally_often(self):
        for p, modulus, prime in some_pairs():
            rows, free = apart(p, modulus, prime), free_by(p, modulus)
            reached = [led(p, modulus, prime, rows[-1], one) for one in free]
            for row in rows:
                self.assertEqual(reached.count(row), len(free) // len(rows))

    def test_zeros_are_led(self):
        for p, modulus, prime in some_pairs():
            for zero in zeros_by(p, modulus, prime):
                for one in free_by(p, modulus)[::3]:
                    to = put_by(p, prime, told_deed(p, one), zero)
                    row = led(p, modulus, prime, [minus(p, [], zero), [1]], one)
                    self.assertEqual(row, [minus(p, [], to), [1]])

    def test_polynomials_of_one_class(self):
        for p, modulus, prime in some_pairs()[::3]:
            row = apart(p, modulus, prime)[0]
            for one in free_by(p, modulus)[:3]:
                for factor in [[1], [2, 1], [1] * (61 - len(modulus))]:
                    polynomial = plus(p, one, times(p, factor, modulus))
                    self.assertEqual(led(p, modulus, prime, row, polynomial), led(p, modulus, prime, row, one))
            greatest = plus(p, [1], times(p, [1] * (62 - len(modulus)), modulus))
            self.assertEqual(len(greatest), 61)
            self.assertEqual(led(p, modulus, prime, row, greatest), row)


class LeaderTest(unittest.TestCase):
    def test_first_free_rest_that_leads(self):
        for p, modulus, prime in some_pairs():
            rows = apart(p, modulus, prime)
            free = free_by(p, modulus)
            for one in rows[:2]:
                reached = [led(p, modulus, prime, one, rest_by) for rest_by in free]
                for other in rows:
                    first = free[reached.index(other)]
                    self.assertEqual(leader(p, modulus, prime, one, other), first, (p, modulus, prime))

    def test_back_again(self):
        for p, modulus, prime in some_pairs()[::2]:
            rows = apart(p, modulus, prime)
            there = leader(p, modulus, prime, rows[0], rows[-1])
            back = leader(p, modulus, prime, rows[-1], rows[0])
            self.assertEqual(led(p, modulus, prime, rows[0], times(p, there, back)), rows[0])


class DivisorTest(unittest.TestCase):
    def test_lone_rows_of_a_divisor(self):
        cases = [
            (3, [0, 1], [0, 0, 1], [1, 1]), (3, [0, 1], [0, 2, 1], [1, 1]), (3, [2, 1], [0, 2, 1], [1, 0, 1]),
            (3, [0, 0, 1], [0, 0, 2, 1], [1, 1]), (5, [0, 1], [0, 1, 1], [2, 1]), (7, [0, 1], [0, 1, 1], [2, 1]),
        ]
        for p, less, modulus, prime in cases:
            inner = by(p, prime, wide(p, told_deed(p, quotient(p, modulus, less))))
            rows = apart(p, modulus, prime)
            counts, owners = [], dict.fromkeys([repr(row) for row in rows], 0)
            for lone in apart(p, less, prime):
                made = by(p, prime, row_put(p, lone, inner))
                found = [row for row in rows if row_rest(p, prime, made, row) == []]
                counts.append(len(found))
                for row in found:
                    owners[repr(row)] += 1
            self.assertEqual(len(set(counts)), 1)
            self.assertGreater(counts[0], 0)
            self.assertEqual(set(owners.values()), {1})


class ZerosByTest(unittest.TestCase):
    def test_rests_that_the_row_makes_nought(self):
        for p, modulus, prime in some_pairs():
            row = row_by(p, modulus, prime)
            zeros = [one for one in rests_by(p, prime) if value_by(p, prime, row, one) == []]
            self.assertEqual(zeros_by(p, modulus, prime), zeros, (p, modulus, prime))
            many, power, _ = apart_kind(p, modulus, prime)
            self.assertEqual(len(zeros), many if power == 1 else 0)
            if zeros:
                self.assertEqual(sorted([minus(p, [], one), [1]] for one in zeros), apart(p, modulus, prime))

    def test_zeros_of_the_deed_but_of_no_lesser_one(self):
        tried = 0
        for p, modulus, prime in some_pairs():
            if rest(p, modulus, prime) != []:
                self.assertEqual(zeros_by(p, modulus, prime), own_zeros(p, modulus, prime))
                tried += zeros_by(p, modulus, prime) != []
        self.assertGreater(tried, 3)

    def test_primes_with_the_rest_1(self):
        for p, modulus, power in [(3, [0, 0, 1], 4), (5, [0, 1], 3), (7, [1, 1], 2)]:
            primes = [one for one in sieved(p, power) if rest(p, one, modulus) == [1]]
            for prime in primes[:3]:
                zeros = zeros_by(p, modulus, prime)
                self.assertEqual(len(zeros), len(free_by(p, modulus)))
                self.assertEqual(zeros, own_zeros(p, modulus, prime))


if __name__ == "__main__":
    unittest.main()
