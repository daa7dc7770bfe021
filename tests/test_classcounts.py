"""Promise [35]: monic polynomials and weights of primes in classes."""

import time
import unittest

from modulusfields.classcounts import monics_in_classes, weights_in_classes
from modulusfields.rests import free_rests
from tests.support import (
    PRIMES, all_moduli, free_by, monics, prime_powers_of, rest, sieved, some_moduli, taken, times,
)

# Moduli with as many free rests as the limit lets, or nearly so many.
GREATEST = [
    (3, [2, 0, 0, 1, 1]), (3, [0, 0, 0, 0, 1]), (3, [1, 0, 0, 1, 1]), (5, [0, 0, 0, 1]), (5, [0, 1, 2, 1]),
    (7, [1, 0, 1]), (7, [0, 0, 1]),
]


def counted(p, modulus, polynomials):
    """For each free rest how many of some polynomials lie in its class."""
    there = [tuple(rest(p, one, modulus)) for one in polynomials]
    return [there.count(tuple(one)) for one in free_by(p, modulus)]


def class_product(p, modulus, one, other):
    """The product of two lists that tell something for each class."""
    free = free_by(p, modulus)
    found = [0] * len(free)
    for a, many in zip(free, one):
        for b, further in zip(free, other):
            if many and further:
                found[free.index(rest(p, times(p, a, b), modulus))] += many * further
    return found


class MonicsTest(unittest.TestCase):
    def test_one_by_one(self):
        for p, greatest in [(3, 6), (5, 4), (7, 3)]:
            for modulus in some_moduli(p):
                for power in range(greatest + 1):
                    found = monics_in_classes(p, modulus, power)
                    self.assertEqual(found, counted(p, modulus, monics(p, power)), (p, modulus, power))

    def test_power_0(self):
        for p in PRIMES:
            for modulus in all_moduli(p):
                free = free_rests(p, modulus)
                self.assertEqual(monics_in_classes(p, modulus, 0), [int(one == [1]) for one in free])

    def test_powers_up_to_60(self):
        for p in PRIMES:
            for modulus in some_moduli(p):
                many = len(free_by(p, modulus))
                for power in [20, 59, 60]:
                    self.assertEqual(monics_in_classes(p, modulus, power), [p ** (power - len(modulus) + 1)] * many)


class WeightsTest(unittest.TestCase):
    def test_one_by_one(self):
        for p, greatest in [(3, 6), (5, 4), (7, 3)]:
            primes = {power: sieved(p, power) for power in range(1, greatest + 1)}
            for modulus in some_moduli(p):
                for power in range(1, greatest + 1):
                    found = [0] * len(free_by(p, modulus))
                    for low in range(1, power + 1):
                        if power % low == 0:
                            powers = [taken(p, prime, power // low) for prime in primes[low]]
                            found = [a + low * b for a, b in zip(found, counted(p, modulus, powers))]
                    self.assertEqual(weights_in_classes(p, modulus, power), found, (p, modulus, power))

    def test_power_0(self):
        for p in PRIMES:
            for modulus in some_moduli(p):
                self.assertEqual(weights_in_classes(p, modulus, 0), [0] * len(free_by(p, modulus)))

    def test_rule_for_every_power(self):
        for p in PRIMES:
            for modulus in some_moduli(p):
                if len(free_by(p, modulus)) <= 24:
                    firsts = [monics_in_classes(p, modulus, power) for power in range(9)]
                    seconds = [weights_in_classes(p, modulus, power) for power in range(9)]
                    for n in range(1, 9):
                        total = [0] * len(firsts[0])
                        for k in range(1, n + 1):
                            part = class_product(p, modulus, seconds[k], firsts[n - k])
                            total = [a + b for a, b in zip(total, part)]
                        self.assertEqual(total, [n * many for many in firsts[n]], (p, modulus, n))

    def test_rule_up_to_the_power_60(self):
        for p, modulus in [(3, [0, 0, 1]), (3, [1, 0, 1]), (5, [0, 1]), (7, [2, 1])]:
            firsts = [monics_in_classes(p, modulus, power) for power in range(61)]
            seconds = [weights_in_classes(p, modulus, power) for power in range(61)]
            for n in [10, 31, 59, 60]:
                total = [0] * len(firsts[0])
                for k in range(1, n + 1):
                    part = class_product(p, modulus, seconds[k], firsts[n - k])
                    total = [a + b for a, b in zip(total, part)]
                self.assertEqual(total, [n * many for many in firsts[n]], (p, modulus, n))

    def test_weights_of_all_classes_together(self):
        # The weights of all primes for a power are p ** power; those of the modulus lie in no class.
        for p in PRIMES:
            for modulus in some_moduli(p):
                for power in [1, 2, 6, 12, 35, 60]:
                    within = sum(len(prime) - 1 for prime, _ in prime_powers_of(p, modulus)
                                 if power % (len(prime) - 1) == 0)
                    self.assertEqual(sum(weights_in_classes(p, modulus, power)), p ** power - within)

    def test_one_modulus_divides_another_one(self):
        for p, less, great in [
            (3, [0, 1], [0, 0, 1]), (3, [0, 0, 1], [0, 0, 0, 1]), (3, [0, 1], [0, 1, 1]), (3, [1, 0, 1], [0, 1, 0, 1]),
            (3, [0, 1, 1], [0, 0, 1, 1]), (5, [0, 1], [0, 0, 1]), (5, [1, 1], [0, 1, 1]), (7, [0, 1], [0, 3, 1]),
        ]:
            free, further = free_by(p, less), free_by(p, great)
            others = [one for one in prime_powers_of(p, great) if rest(p, less, one[0]) != []]
            for power in range(1, 25):
                told = weights_in_classes(p, less, power)
                found = [0] * len(free)
                for one, weight in zip(further, weights_in_classes(p, great, power)):
                    found[free.index(rest(p, one, less))] += weight
                for prime, _ in others:
                    if power % (len(prime) - 1) == 0:
                        there = rest(p, taken(p, prime, power // (len(prime) - 1)), less)
                        found[free.index(there)] += len(prime) - 1
                self.assertEqual(found, told, (p, less, great, power))

    def test_limits_within_seconds(self):
        for p, modulus in GREATEST:
            start = time.process_time()
            firsts, seconds = monics_in_classes(p, modulus, 60), weights_in_classes(p, modulus, 60)
            self.assertLess(time.process_time() - start, 10)
            self.assertEqual(len(firsts), len(seconds))
            within = sum(len(prime) - 1 for prime, _ in prime_powers_of(p, modulus) if 60 % (len(prime) - 1) == 0)
            self.assertEqual(sum(seconds), p ** 60 - within)
            self.assertTrue(all(weight >= 0 for weight in seconds))

    def test_kinds(self):
        for power in [0, 1, 2, 60]:
            for found in [monics_in_classes(3, [0, 0, 1], power), weights_in_classes(3, [0, 0, 1], power)]:
                self.assertTrue(all(type(item) is int for item in found))


if __name__ == "__main__":
    unittest.main()
