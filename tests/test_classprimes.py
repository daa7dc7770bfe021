"""Promises [36] and [37]: primes in classes."""

import time
import unittest

from modulusfields.classcounts import weights_in_classes
from modulusfields.classprimes import first_prime, primes_in_class, primes_in_classes, primes_of_order
from modulusfields.primes import is_prime
from modulusfields.rests import free_rests, order_of
from tests.support import PRIMES, all_moduli, free_by, monics, plus, prime_powers_of, rest, sieved, some_moduli, times
from tests.test_classcounts import GREATEST, counted

# How many primes there are of the powers 1 to 6.
COUNTS = {3: [3, 3, 8, 18, 48, 116], 5: [5, 10, 40, 150, 624, 2580], 7: [7, 21, 112, 588, 3360, 19544]}


def how_many_primes(p, power):
    """How many primes have a power, by the weights that all of them have together."""
    left = p ** power - sum(low * how_many_primes(p, low) for low in range(1, power) if power % low == 0)
    return left // power


class PrimesInClassesTest(unittest.TestCase):
    def test_one_by_one(self):
        for p, greatest in [(3, 6), (5, 4), (7, 3)]:
            primes = {power: sieved(p, power) for power in range(1, greatest + 1)}
            for modulus in some_moduli(p):
                for power in range(1, greatest + 1):
                    found = primes_in_classes(p, modulus, power)
                    self.assertEqual(found, counted(p, modulus, primes[power]), (p, modulus, power))
                    for one, many in zip(free_by(p, modulus), found):
                        self.assertEqual(primes_in_class(p, modulus, power, one), many)

    def test_power_0(self):
        for p in PRIMES:
            for modulus in some_moduli(p):
                self.assertEqual(primes_in_classes(p, modulus, 0), [0] * len(free_by(p, modulus)))
                self.assertEqual(primes_in_class(p, modulus, 0, [1]), 0)
                self.assertEqual(primes_of_order(p, modulus, 0, 1), 0)

    def test_all_classes_together(self):
        for p in PRIMES:
            self.assertEqual([how_many_primes(p, power) for power in range(1, 7)], COUNTS[p])
            for modulus in some_moduli(p):
                within = [len(prime) - 1 for prime, _ in prime_powers_of(p, modulus)]
                for power in [1, 2, 3, 4, 6, 12, 30, 59, 60]:
                    found = primes_in_classes(p, modulus, power)
                    self.assertEqual(sum(found), how_many_primes(p, power) - within.count(power))
                    self.assertTrue(all(type(many) is int and many >= 0 for many in found))

    def test_weights_come_of_primes(self):
        for p, modulus in [(3, [0, 0, 1]), (3, [1, 0, 1]), (3, [0, 1, 1]), (5, [0, 0, 1]), (7, [0, 1])]:
            free = free_by(p, modulus)
            for power in [4, 6, 12, 24]:
                found = [0] * len(free)
                for low in [n for n in range(1, power + 1) if power % n == 0]:
                    for one, many in zip(free, primes_in_classes(p, modulus, low)):
                        there = [1]
                        for _ in range(power // low):
                            there = rest(p, times(p, there, one), modulus)
                        found[free.index(there)] += low * many
                self.assertEqual(found, weights_in_classes(p, modulus, power))

    def test_one_modulus_divides_another_one(self):
        for p, less, great in [
            (3, [0, 1], [0, 0, 1]), (3, [0, 0, 1], [0, 0, 0, 0, 1]), (3, [0, 1], [0, 1, 1]),
            (3, [1, 0, 1], [0, 1, 0, 1]), (5, [0, 1], [0, 0, 1]), (5, [1, 1], [0, 1, 1]), (7, [0, 1], [0, 3, 1]),
        ]:
            free, further = free_by(p, less), free_by(p, great)
            others = [one for one, _ in prime_powers_of(p, great) if rest(p, less, one) != []]
            for power in [1, 2, 3, 7, 10, 24]:
                found = [0] * len(free)
                for one, many in zip(further, primes_in_classes(p, great, power)):
                    found[free.index(rest(p, one, less))] += many
                for prime in others:
                    if len(prime) - 1 == power:
                        found[free.index(rest(p, prime, less))] += 1
                self.assertEqual(found, primes_in_classes(p, less, power))

    def test_limits_within_seconds(self):
        for p, modulus in GREATEST:
            start = time.process_time()
            found = primes_in_classes(p, modulus, 60)
            self.assertEqual(primes_in_class(p, modulus, 60, [2]), found[free_rests(p, modulus).index([2])])
            self.assertEqual(sum(found), how_many_primes(p, 60))
            self.assertLess(time.process_time() - start, 10)


class OrdersTest(unittest.TestCase):
    def test_one_by_one(self):
        for p, greatest in [(3, 5), (5, 3), (7, 3)]:
            for modulus in some_moduli(p):
                for power in range(1, greatest + 1):
                    orders = [order_of(p, modulus, rest(p, one, modulus)) for one in sieved(p, power)
                              if rest(p, one, modulus) in free_by(p, modulus)]
                    for order in range(1, max(orders + [1]) + 3):
                        self.assertEqual(primes_of_order(p, modulus, power, order), orders.count(order))

    def test_orders_that_no_rest_has(self):
        for p in PRIMES:
            for order in [11, 10 ** 6 + 3, 10 ** 30 - 1]:
                self.assertEqual(primes_of_order(p, [0, 1], 6, order), 0)

    def test_limits_within_seconds(self):
        for p, modulus in GREATEST:
            start = time.process_time()
            many = len(free_by(p, modulus))
            orders = [order for order in range(1, many + 1) if many % order == 0]
            found = [primes_of_order(p, modulus, 60, order) for order in orders[:4]]
            self.assertTrue(all(one >= 0 for one in found))
            self.assertLess(time.process_time() - start, 20)


class FirstPrimeTest(unittest.TestCase):
    def test_first_of_all_primes(self):
        for p, greatest in [(3, 6), (5, 4), (7, 3)]:
            primes = [one for power in range(1, greatest + 1) for one in sieved(p, power)]
            for modulus in some_moduli(p) + all_moduli(p)[-40:]:
                firsts = {}
                for prime in primes:
                    firsts.setdefault(tuple(rest(p, prime, modulus)), prime)
                for one in free_by(p, modulus):
                    if p == 3 or tuple(one) in firsts:
                        self.assertEqual(first_prime(p, modulus, one), firsts.get(tuple(one)), (p, modulus, one))
                    else:
                        self.assertGreater(len(first_prime(p, modulus, one)) - 1, greatest)

    def test_classes_without_a_prime_of_such_a_power(self):
        # By these moduli some class has only polynomials of at most the power 6 that are no primes.
        missing = 0
        for modulus in [[2, 0, 0, 1, 1], [2, 1, 0, 0, 1], [1, 1, 1, 1, 1]]:
            for one in free_by(3, modulus):
                factors = [told for power in range(3) for told in monics(3, power)]
                tried = [one] + [plus(3, one, times(3, modulus, told)) for told in factors]
                primes = [told for told in tried if len(told) > 1 and is_prime(3, told)]
                found = first_prime(3, modulus, one)
                if primes:
                    self.assertEqual(found, min(primes, key=lambda told: (len(told), told)))
                else:
                    missing += 1
                    self.assertIsNone(found)
                    for power in range(1, 7):
                        self.assertEqual(primes_in_class(3, modulus, power, one), 0)
        self.assertGreater(missing, 0)

    def test_as_many_as_are_told(self):
        for p in PRIMES:
            for modulus in some_moduli(p):
                for one in free_by(p, modulus):
                    prime = first_prime(p, modulus, one)
                    powers = [power for power in range(1, 7) if primes_in_class(p, modulus, power, one)]
                    self.assertEqual(len(prime) - 1, powers[0])
                    self.assertEqual(rest(p, prime, modulus), one)

    def test_told_by_hand(self):
        for p in PRIMES:
            self.assertEqual([first_prime(p, [0, 1], [c]) for c in range(1, p)], [[c, 1] for c in range(1, p)])
            # A free rest that is a prime itself is the first one of its class; T is none by T.
            self.assertEqual(first_prime(p, [0, 0, 1], [1, 1]), [1, 1])
            self.assertEqual(first_prime(p, [1, 1], [p - 1]), [0, 1])
        self.assertEqual(first_prime(3, [0, 0, 1], [1]), [1, 0, 1])


if __name__ == "__main__":
    unittest.main()
