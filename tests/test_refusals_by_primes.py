"""Promise [2] for lots, modules, residues and turning: each wrong argument is refused, the first one first."""

import unittest

from modulusfields import lots, modules, residues, turning
from modulusfields.errors import (
    InvalidGroup, InvalidList, InvalidModulus, InvalidNumber, InvalidPolynomial, InvalidPrime, InvalidRest, TooMany,
)
from tests.refused import RefusalChecks
from tests.support import PRIMES, SIXTH, any_values, bad_moduli, bad_polynomials, bad_primes, sieved, times
from tests.test_refusals import MODULUS, bad_groups
from tests.test_refusals_of_rows import bad_primes_by, bad_rests

# For each `p` a prime beside the modulus, and the primes within it.
BESIDE = {3: [1, 1], 5: [1, 1], 7: [2, 1]}
WITHIN = {3: [[0, 1], [2, 1]], 5: [[0, 1]], 7: [[0, 1], [1, 1]]}


def bad_marks(p):
    return bad_polynomials(p) + [[], [2], [0, 2], [1, 0, 2], [0] * 61 + [1], [0] * 60 + [2]]


def bad_lists_of_rests(p):
    """Values that are no list of rests by the prime of power 2: bad items first, amid and last."""
    found = any_values() + [(), ([1],), ([1], [2]), {0: [1]}, "1", [1], [1, 2], [[1], None], [(1,)], [[True]]]
    for one in bad_rests(p):
        found += [[one], [one, [1], []], [[1], one, [0, 1]], [[], [0, 1], one]]
    return found


def bad_long_moduli(p):
    """Values that are no monic polynomial of a power from 1 to 30."""
    long = [[0] * 31 + [1], [1] * 32, [0] * 60 + [1], [0] * 30 + [2]]
    return bad_polynomials(p) + [[], [1], [2], [0, 2], [1, 0, 2]] + long


def bad_numbers(p):
    """Values that are no whole number from 1 to `p - 1`."""
    numbers = list(range(1, p))
    return [one for one in any_values() if isinstance(one, bool) or one not in numbers] + [p, 0, -1, p + 1, [], [1]]


def bad_counts(p):
    """Values that are no whole number of at least 1 that divides `p - 1`."""
    counts = [one for one in range(1, p) if (p - 1) % one == 0]
    values = any_values() + list(range(-7, 14)) + [[], [1], 2 * (p - 1), 10 ** 29 * (p - 1)]
    return [one for one in values if isinstance(one, bool) or one not in counts]


def refusals(p):
    """For each function: arguments that are right, and for each place the error and values that are refused."""
    prime, modulus = (InvalidPrime, bad_primes()), (InvalidModulus, bad_moduli(p))
    by = (InvalidModulus, bad_primes_by(p))
    beside = (InvalidModulus, bad_primes_by(p) + WITHIN[p])
    group = (InvalidGroup, bad_groups(p))
    polynomial = (InvalidPolynomial, bad_polynomials(p) + [[0] * 61 + [1], [1] * 62])
    rest, mark = (InvalidRest, bad_rests(p)), (InvalidPolynomial, bad_marks(p))
    long = (InvalidModulus, bad_long_moduli(p))
    number, count = (InvalidNumber, bad_numbers(p)), (InvalidNumber, bad_counts(p))
    second, great = sieved(p, 2)[0], [0] * 60 + [2]
    return [
        (lots.lot_rows, [p, MODULUS[p], BESIDE[p], [[1]]], [prime, modulus, beside, group]),
        (lots.is_lot_row, [p, MODULUS[p], BESIDE[p], [[1]], [[1], [1]]], [prime, modulus, beside, group]),
        (modules.mark_of, [p, second, [0, 1]], [prime, by, rest]),
        (modules.how_many_marked, [p, second, [0, 1]], [prime, by, mark]),
        (modules.marked, [p, second, [0] * 60 + [1]], [prime, by, mark]),
        (modules.how_many_killed, [p, second, great], [prime, by, polynomial]),
        (modules.killed, [p, second, great], [prime, by, polynomial]),
        (modules.is_maker, [p, second, [0, 1]], [prime, by, rest]),
        (modules.first_maker, [p, second], [prime, by]),
        (modules.answers, [p, second, great, [1]], [prime, by, polynomial, rest]),
        (modules.answer, [p, second, great, [1]], [prime, by, polynomial, rest]),
        (modules.bar, [p, second, great, []], [prime, by, polynomial, rest]),
        (modules.prime_parts, [p, second, [0, 1]], [prime, by, rest]),
        (modules.common_mark, [p, second, [[], [0, 1]]], [prime, by, (InvalidList, bad_lists_of_rests(p))]),
        (residues.residue, [p, [0] * 30 + [1], great], [prime, long, polynomial]),
        (residues.how_many_with, [p, MODULUS[p], 2], [prime, modulus, number]),
        (turning.walk, [p, [0] * 30 + [1], great], [prime, long, polynomial]),
        (turning.is_walk, [p, [0] * 30 + [1], great, []], [prime, long, polynomial]),
        (turning.root, [p, second, 2, great], [prime, by, count, polynomial]),
        (turning.power_or_bar, [p, 2, [1, 0, 1]], [prime, count, polynomial]),
    ]


class RefusalsByPrimesTest(RefusalChecks, unittest.TestCase):
    def table(self, p):
        return refusals(p)

    def test_by_name(self):
        value = [0, 2]
        with self.assertRaises(InvalidModulus) as caught:
            modules.answers(rest=None, polynomial=None, prime=value, p=3)
        self.assertIs(caught.exception.value, value)
        with self.assertRaises(InvalidModulus) as caught:
            lots.is_lot_row(value=None, group=None, prime=value, modulus=[0, 1], p=3)
        self.assertIs(caught.exception.value, value)

    def test_prime_within_the_modulus_ahead_of_the_group(self):
        for p in PRIMES:
            for one in WITHIN[p]:
                self.refused(lots.lot_rows, [p, MODULUS[p], one, [[2]]], InvalidModulus, one)
                self.refused(lots.is_lot_row, [p, MODULUS[p], one, None, None], InvalidModulus, one)

    def test_wrong_arguments_ahead_of_too_many(self):
        for p in [5, 7]:
            prime, rest = SIXTH[p], [0] * 6 + [1]
            self.refused(modules.answers, [p, prime, [], rest], InvalidRest, rest)
            polynomial = [p]
            self.refused(modules.killed, [p, prime, polynomial], InvalidPolynomial, polynomial)
            with self.assertRaises(TooMany) as caught:
                modules.killed(p, prime, [])
            self.assertEqual(caught.exception.value, p ** 6)

    def test_primes_up_to_the_power_6(self):
        for p in PRIMES:
            product = times(p, SIXTH[p], [1, 1])
            self.assertEqual(modules.mark_of(p, SIXTH[p], []), [1])
            self.assertEqual(turning.root(p, SIXTH[p], 1, [1]), [1])
            self.refused(modules.mark_of, [p, product, []], InvalidModulus, product)
            self.refused(turning.root, [p, product, 1, [1]], InvalidModulus, product)

    def test_booleans_are_no_numbers(self):
        for p in PRIMES:
            self.refused(residues.how_many_with, [p, [0, 1], True], InvalidNumber, True)
            self.refused(turning.root, [p, [0, 1], True, [1]], InvalidNumber, True)
            self.refused(turning.power_or_bar, [p, True, [1]], InvalidNumber, True)
            for one in [[True], [False, 1]]:
                self.refused(turning.power_or_bar, [p, 1, one], InvalidPolynomial, one)
                self.refused(modules.killed, [p, [1, 1], one], InvalidPolynomial, one)
                self.refused(modules.prime_parts, [p, sieved(p, 2)[0], one], InvalidRest, one)
            rests = [[1], [True]]
            self.refused(modules.common_mark, [p, [1, 1], rests], InvalidList, rests)

    def test_tuples_are_no_lists(self):
        for p in PRIMES:
            one = (0, 1)
            self.refused(residues.residue, [p, one, [1]], InvalidModulus, one)
            self.refused(modules.first_maker, [p, one], InvalidModulus, one)
            rests = ([1], [2])
            self.refused(modules.common_mark, [p, [1, 1], rests], InvalidList, rests)
            group = ([1],)
            self.refused(lots.lot_rows, [p, [0, 1], [1, 1], group], InvalidGroup, group)


if __name__ == "__main__":
    unittest.main()
