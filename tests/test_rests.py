"""Promises [7] and [8]: rests, their orders, groups and cosets."""

import time
import unittest
from itertools import permutations

from modulusfields.errors import InvalidPolynomial
from modulusfields.primes import primes_of
from modulusfields.rests import (
    cosets, free_rests, generated, how_many_free, is_group, order_of, rest_of, rest_opposite, rest_product,
)
from tests.support import (
    MODULUS_POWERS, PRIMES, all_moduli, any_values, free_by, monics, rest, rests_by, some_moduli, times,
)


def cases():
    return [(p, modulus) for p in PRIMES for modulus in some_moduli(p)]


def greatest_moduli():
    """Moduli of the greatest powers: prime, a prime taken several times, several primes."""
    found = []
    for p, power in MODULUS_POWERS.items():
        prime, several, mixed = primes_of(p, power)[-1], [0] * power + [1], [0] + [1] * power
        found += [(p, modulus) for modulus in [prime, several, mixed]]
    return found


def group_by_words(p, modulus, free, value):
    """Whether a list is a group, as the document puts it."""
    if any(one not in free for one in value) or value != sorted(value) or [1] not in value:
        return False
    if any(value.count(one) > 1 for one in value):
        return False
    return all(rest(p, times(p, one, other), modulus) in value for one in value for other in value)


def closed(p, modulus, some):
    """The least group with all items of a list: products are added until none is new."""
    found = [[1]] + [one for one in some]
    grown = True
    while grown:
        grown = False
        for one in list(found):
            for other in list(found):
                made = rest(p, times(p, one, other), modulus)
                if made not in found:
                    found.append(made)
                    grown = True
    return sorted([list(one) for one in {tuple(one) for one in found}])


class RestTest(unittest.TestCase):
    def test_against_plain_reckoning(self):
        for p, modulus in cases() + greatest_moduli():
            for length in list(range(1, 12)) + [30, 60, 61]:
                polynomial = [(k * k + 2 * k + length) % p for k in range(length - 1)] + [1 + length % (p - 1)]
                self.assertEqual(rest_of(p, modulus, polynomial), rest(p, polynomial, modulus))

    def test_all_short_polynomials(self):
        for modulus in some_moduli(3):
            for polynomial in rests_by(3, [0] * 5 + [1]):
                self.assertEqual(rest_of(3, modulus, polynomial), rest(3, polynomial, modulus))

    def test_nought_one_and_numbers(self):
        for p, modulus in cases():
            self.assertEqual(rest_of(p, modulus, []), [])
            self.assertEqual(rest_of(p, modulus, modulus), [])
            for number in range(1, p):
                self.assertEqual(rest_of(p, modulus, [number]), [number])

    def test_rests_stay(self):
        for p, modulus in cases():
            for one in rests_by(p, modulus):
                self.assertEqual(rest_of(p, modulus, one), one)

    def test_classes(self):
        for p, modulus in cases():
            multiple = times(p, modulus, [1, 2, 1])
            for one in rests_by(p, modulus):
                numbers = [((one[k] if k < len(one) else 0) + n) % p for k, n in enumerate(multiple)]
                self.assertEqual(rest_of(p, modulus, numbers), one)

    def test_modulus_of_power_one(self):
        self.assertEqual(rest_of(5, [2, 1], [1, 1, 1]), [3])
        self.assertEqual(rest_of(3, [2, 1], [2, 1]), [])
        self.assertEqual(rest_of(7, [0, 1], [0, 6, 3]), [])

    def test_bound_of_powers(self):
        self.assertEqual(rest_of(3, [0, 1], [0] * 60 + [1]), [])
        polynomial = [0] * 61 + [1]
        with self.assertRaises(InvalidPolynomial) as caught:
            rest_of(3, [0, 1], polynomial)
        self.assertIs(caught.exception.value, polynomial)


class FreeTest(unittest.TestCase):
    def test_free_rests_have_opposites(self):
        for p, modulus in cases():
            self.assertEqual(free_rests(p, modulus), free_by(p, modulus))

    def test_counts_of_all_moduli(self):
        for p in PRIMES:
            for modulus in all_moduli(p):
                found = free_rests(p, modulus)
                self.assertEqual(how_many_free(p, modulus), len(found))
                self.assertEqual(found, sorted(found))
                self.assertNotIn([], found)

    def test_told_by_hand(self):
        self.assertEqual(how_many_free(3, [0, 1]), 2)
        self.assertEqual(how_many_free(7, [5, 1]), 6)
        self.assertEqual(how_many_free(5, [0, 0, 0, 1]), 100)
        self.assertEqual(how_many_free(5, primes_of(5, 3)[0]), 124)
        self.assertEqual(how_many_free(3, primes_of(3, 4)[0]), 80)
        self.assertEqual(how_many_free(3, [1, 0, 2, 0, 1]), 72)
        self.assertEqual(how_many_free(3, [0, 0, 0, 0, 1]), 54)
        self.assertEqual(how_many_free(7, [0, 1, 1]), 36)
        self.assertEqual(free_rests(5, [0, 1]), [[1], [2], [3], [4]])


class ProductTest(unittest.TestCase):
    def test_products(self):
        for p, modulus in cases():
            rests = rests_by(p, modulus)
            for one in rests[:27]:
                for other in rests[-27:]:
                    made = rest(p, times(p, one, other), modulus)
                    self.assertEqual(rest_product(p, modulus, one, other), made)
                    self.assertEqual(rest_product(p, modulus, other, one), made)

    def test_nought_and_one(self):
        for p, modulus in cases():
            for one in rests_by(p, modulus):
                self.assertEqual(rest_product(p, modulus, one, []), [])
                self.assertEqual(rest_product(p, modulus, [], one), [])
                self.assertEqual(rest_product(p, modulus, one, [1]), one)

    def test_nought_from_two_that_are_not(self):
        self.assertEqual(rest_product(3, [0, 0, 1], [0, 1], [0, 2]), [])

    def test_opposites(self):
        for p, modulus in cases() + greatest_moduli():
            for one in free_rests(p, modulus):
                opposite = rest_opposite(p, modulus, one)
                self.assertLess(len(opposite), len(modulus))
                self.assertEqual(rest_product(p, modulus, one, opposite), [1])
                self.assertEqual(rest_opposite(p, modulus, opposite), one)

    def test_opposites_of_numbers(self):
        self.assertEqual([rest_opposite(7, [0, 0, 1], [number]) for number in range(1, 7)], [[1], [4], [5], [2], [3], [6]])


class OrderTest(unittest.TestCase):
    def test_against_plain_reckoning(self):
        for p, modulus in cases():
            for one in free_rests(p, modulus):
                many, reached = 1, one
                while reached != [1]:
                    many, reached = many + 1, rest(p, times(p, reached, one), modulus)
                self.assertEqual(order_of(p, modulus, one), many)
                self.assertEqual(how_many_free(p, modulus) % many, 0)
                self.assertEqual(len(generated(p, modulus, [one])), many)

    def test_one_and_numbers(self):
        for p, modulus in cases():
            self.assertEqual(order_of(p, modulus, [1]), 1)
            self.assertEqual(order_of(p, modulus, [p - 1]), 2)
        self.assertEqual([order_of(7, [0, 1], [number]) for number in range(1, 7)], [1, 3, 6, 3, 6, 2])

    def test_prime_moduli_have_a_rest_of_every_order(self):
        for p, power in MODULUS_POWERS.items():
            prime = primes_of(p, power)[0]
            whole = how_many_free(p, prime)
            orders = {order_of(p, prime, one) for one in free_rests(p, prime)}
            self.assertEqual(sorted(orders), [n for n in range(1, whole + 1) if whole % n == 0])


class GroupTest(unittest.TestCase):
    def test_all_lists_of_different_free_rests(self):
        for p, modulus, longest in [(3, [0, 1], 2), (5, [0, 1], 4), (3, [0, 1, 1], 4), (3, [0, 0, 1], 4), (7, [1, 1], 3)]:
            free = free_by(p, modulus)
            groups = 0
            for length in range(longest + 1):
                for some in permutations(free, length):
                    value = [list(one) for one in some]
                    told = is_group(p, modulus, value)
                    self.assertIs(told, group_by_words(p, modulus, free, value), value)
                    groups += told
            self.assertGreater(groups, 1)

    def test_whole_and_least(self):
        for p, modulus in cases() + greatest_moduli():
            free = free_rests(p, modulus)
            self.assertIs(is_group(p, modulus, free), True)
            self.assertIs(is_group(p, modulus, [[1]]), True)
            self.assertIs(is_group(p, modulus, [[number] for number in range(1, p)]), True)
            self.assertIs(is_group(p, modulus, free[::-1]), False)
            self.assertIs(is_group(p, modulus, free[1:]), False)
            self.assertIs(is_group(p, modulus, free + [free[-1]]), False)
            self.assertIs(is_group(p, modulus, tuple(free)), False)
            self.assertIs(is_group(p, modulus, [tuple(one) for one in free]), False)

    def test_not_groups(self):
        for value in any_values() + [
            [], [[]], [1], [[2]], [[1], [1]], [[1], [1], [2]], [[1], [2], [2]], [[2], [1]], [[1], [1, 1]],
            [[], [1]], [[1], []], [[1], [0, 1]], [[True]], [[1], [True]], [[1], [2], None], ([1], [2]), [(1,)],
            [[1], [2, 0]], [[1], [3]], [[1], [0, 0, 1]], [[1], [-1]], [["1"]], [[1], 2], {1: [1]}, [[[1]]],
        ]:
            self.assertIs(is_group(3, [0, 0, 1], value), False, value)

    def test_generated_by_two(self):
        for p, modulus in [(3, [0, 0, 1]), (3, [1, 0, 1]), (3, [0, 1, 1]), (5, [0, 1]), (7, [0, 1]), (3, [0, 0, 2, 1])]:
            free = free_by(p, modulus)
            for one in free:
                for other in free:
                    made = closed(p, modulus, [one, other])
                    self.assertEqual(generated(p, modulus, [one, other]), made)
                    self.assertIs(is_group(p, modulus, made), True)

    def test_generated_by_none_one_and_all(self):
        for p, modulus in cases() + greatest_moduli():
            free = free_rests(p, modulus)
            self.assertEqual(generated(p, modulus, []), [[1]])
            self.assertEqual(generated(p, modulus, [[1]]), [[1]])
            self.assertEqual(generated(p, modulus, [[1], [1]]), [[1]])
            self.assertEqual(generated(p, modulus, free), free)
            self.assertEqual(generated(p, modulus, free[::-1] + free), free)

    def test_generated_needs_no_order(self):
        self.assertEqual(generated(3, [1, 0, 1], [[2], [0, 1], [2]]), [[0, 1], [0, 2], [1], [2]])
        self.assertEqual(generated(3, [0, 0, 1], [[2, 1], [2]]), generated(3, [0, 0, 1], [[2], [2, 1]]))


class CosetsTest(unittest.TestCase):
    def test_against_the_words(self):
        for p, modulus in cases():
            free = free_rests(p, modulus)
            for start in free[:20]:
                group = generated(p, modulus, [start])
                expected = []
                for one in free:
                    coset = sorted(rest(p, times(p, one, item), modulus) for item in group)
                    if coset not in expected:
                        expected.append(coset)
                found = cosets(p, modulus, group)
                self.assertEqual(found, sorted(expected))
                self.assertEqual(sorted(one for coset in found for one in coset), free)

    def test_least_and_whole_group(self):
        for p, modulus in cases() + greatest_moduli():
            free = free_rests(p, modulus)
            self.assertEqual(cosets(p, modulus, [[1]]), [[one] for one in free])
            self.assertEqual(cosets(p, modulus, free), [free])


class SecondsTest(unittest.TestCase):
    def test_greatest_moduli_within_seconds(self):
        start = time.perf_counter()
        for p, modulus in greatest_moduli():
            free = free_rests(p, modulus)
            self.assertEqual(len(free), how_many_free(p, modulus))
            for one in free:
                order_of(p, modulus, one)
                rest_opposite(p, modulus, one)
            self.assertTrue(is_group(p, modulus, free))
            self.assertEqual(generated(p, modulus, free), free)
            self.assertEqual(len(cosets(p, modulus, [[1]])), len(free))
            rest_of(p, modulus, [1] * 61)
        self.assertLess(time.perf_counter() - start, 10)

    def test_greatest_moduli_have_the_greatest_power(self):
        for p, modulus in greatest_moduli():
            self.assertIn(modulus, monics(p, MODULUS_POWERS[p]))


if __name__ == "__main__":
    unittest.main()
