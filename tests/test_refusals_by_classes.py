"""Promise [2] for classes of polynomials and for fields: each wrong argument is refused, the first one first."""

import unittest

from modulusfields import classcounts, classprimes, fieldcounts, places
from modulusfields.errors import InvalidGroup, InvalidModulus, InvalidNumber, InvalidPrime, InvalidRest
from modulusfields.rests import free_rests
from tests.refused import RefusalChecks
from tests.support import MODULUS_POWERS, PRIMES, any_values, bad_moduli, bad_primes, least_group
from tests.test_refusals import MODULUS, bad_free, bad_groups
from tests.test_refusals_of_rows import bad_primes_by


def bad_powers():
    """Values that are no count."""
    return [one for one in any_values() if isinstance(one, (bool, type(None), str, tuple, list, dict)) or one < 0] + [
        [], [1], "0", -60,
    ]


def bad_numbers():
    """Values that are no whole number of at least 1."""
    return bad_powers() + [0]


def bad_further():
    """Values that are no whole number from 1 to 1,000."""
    return bad_numbers() + [1001, 1002, 10 ** 29, 10 ** 30 - 1]


def other_groups(p):
    """Lists of free rests by the modulus that are no group: one that is, but for one thing."""
    group = least_group(p, MODULUS[p], [[2], [p - 1]])
    free = free_rests(p, MODULUS[p])
    return bad_groups(p) + [
        group[1:], group[::-1], group + [group[-1]], [group[0]] + group, tuple(group), [tuple(one) for one in group],
        group + [[0, 1]], [[]] + group, free[1:], free[:-1], free[::-1], free + [free[-1]], [group], group + [[p + 1]],
        [[True]] + group[1:], [[1, 0]] + group[1:], sorted(group + [free[1]]),
    ]


def refusals(p):
    """For each function: arguments that are right, and for each place the error and values that are refused."""
    prime, modulus = (InvalidPrime, bad_primes()), (InvalidModulus, bad_moduli(p))
    by, group = (InvalidModulus, bad_primes_by(p)), (InvalidGroup, other_groups(p))
    power, number = (InvalidNumber, bad_powers()), (InvalidNumber, bad_numbers())
    rest, further = (InvalidRest, bad_free(p)), (InvalidNumber, bad_further())
    field = [p, MODULUS[p], [[1]]]
    return [
        (classcounts.monics_in_classes, [p, MODULUS[p], 2], [prime, modulus, power]),
        (classcounts.weights_in_classes, [p, MODULUS[p], 2], [prime, modulus, power]),
        (classprimes.primes_in_class, [p, MODULUS[p], 2, [2]], [prime, modulus, power, rest]),
        (classprimes.primes_in_classes, [p, MODULUS[p], 2], [prime, modulus, power]),
        (classprimes.primes_of_order, [p, MODULUS[p], 2, 1], [prime, modulus, power, number]),
        (classprimes.first_prime, [p, MODULUS[p], [2]], [prime, modulus, rest]),
        (places.places_over, field + [[0, 1]], [prime, modulus, group, by]),
        (places.far_places, field, [prime, modulus, group]),
        (fieldcounts.genus, field, [prime, modulus, group]),
        (fieldcounts.how_many_places, field + [2], [prime, modulus, group, number]),
        (fieldcounts.points, field + [2], [prime, modulus, group, number]),
        (fieldcounts.class_polynomial, field, [prime, modulus, group]),
        (fieldcounts.further_points, field + [2], [prime, modulus, group, further]),
    ]


class RefusalsByClassesTest(RefusalChecks, unittest.TestCase):
    def table(self, p):
        return refusals(p)

    def test_by_name(self):
        value = [[2]]
        with self.assertRaises(InvalidGroup) as caught:
            places.places_over(prime=None, group=value, modulus=[0, 1], p=3)
        self.assertIs(caught.exception.value, value)
        with self.assertRaises(InvalidNumber) as caught:
            classprimes.primes_in_class(rest=None, power=-1, modulus=[0, 1], p=3)
        self.assertEqual(caught.exception.value, -1)

    def test_booleans_are_no_numbers(self):
        for p in PRIMES:
            for one in [True, False]:
                self.refused(classcounts.weights_in_classes, [p, [0, 1], one], InvalidNumber, one)
                self.refused(classprimes.primes_of_order, [p, [0, 1], 1, one], InvalidNumber, one)
                self.refused(fieldcounts.how_many_places, [p, [0, 1], [[1]], one], InvalidNumber, one)
                self.refused(fieldcounts.points, [p, [0, 1], [[1]], one], InvalidNumber, one)
                self.refused(fieldcounts.further_points, [p, [0, 1], [[1]], one], InvalidNumber, one)
            group = [[True]]
            self.refused(fieldcounts.genus, [p, [0, 1], group], InvalidGroup, group)

    def test_groups_by_another_modulus_are_refused(self):
        group = [[1], [1, 1], [1, 2]]
        self.assertEqual(fieldcounts.genus(3, [0, 0, 1], group), 0)
        self.refused(fieldcounts.genus, [3, [1, 0, 1], group], InvalidGroup, group)
        self.refused(places.far_places, [3, [0, 1], group], InvalidGroup, group)

    def test_moduli_within_the_bounds_only(self):
        for p in PRIMES:
            modulus = [1] * (MODULUS_POWERS[p] + 1) + [1]
            self.refused(classcounts.monics_in_classes, [p, modulus, 1], InvalidModulus, modulus)
            self.refused(classprimes.first_prime, [p, modulus, [1]], InvalidModulus, modulus)
            self.refused(places.far_places, [p, modulus, [[1]]], InvalidModulus, modulus)
            self.refused(fieldcounts.class_polynomial, [p, modulus, [[1]]], InvalidModulus, modulus)

    def test_power_0_is_no_wrong_power(self):
        for p in PRIMES:
            self.assertEqual(sum(classcounts.monics_in_classes(p, MODULUS[p], 0)), 1)
            self.assertEqual(sum(classprimes.primes_in_classes(p, MODULUS[p], 0)), 0)
            self.refused(fieldcounts.how_many_places, [p, MODULUS[p], [[1]], 0], InvalidNumber, 0)
            self.refused(fieldcounts.points, [p, MODULUS[p], [[1]], 0], InvalidNumber, 0)


if __name__ == "__main__":
    unittest.main()
