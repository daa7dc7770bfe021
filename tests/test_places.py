"""Promise [38]: places of the fields over primes and over the far place."""

import time
import unittest

from modulusfields.apart import apart_kind
from modulusfields.places import far_places, places_over
from modulusfields.rests import free_rests, generated
from tests.support import (
    FOURTH, PRIMES, SIXTH, free_by, groups_by, least_group, minus, prime_powers_of, quotient, rest, sieved, some_pairs,
    taken, times,
)

# Moduli with at most 60 free rests: a prime once, twice, three or four times, several primes.
MODULI = [
    (3, [0, 1]), (3, [0, 0, 1]), (3, [1, 0, 1]), (3, [0, 1, 1]), (3, [0, 2, 0, 1]), (3, [0, 0, 0, 1]),
    (3, [0, 0, 2, 1]), (3, [0, 1, 0, 1]), (3, [1, 2, 0, 1]), (5, [0, 1]), (5, [0, 0, 1]), (5, [0, 1, 1]),
    (5, [2, 0, 1]), (7, [0, 1]), (7, [0, 3, 1]), (7, [0, 0, 1]),
]
GREATEST = [(3, [0, 0, 0, 0, 1]), (3, [0, 1, 0, 0, 1]), (3, [1, 0, 2, 0, 1]), (5, [0, 1, 0, 1]), (7, [1, 0, 1])]


def fields():
    """Moduli with their groups: all that one or two rests generate."""
    return [(p, modulus, group) for p, modulus in MODULI for group in groups_by(p, modulus)]


def orbit_sizes(p, modulus, group, movers):
    """How great the sets of cosets of a group are that are led to each other by taking all times the movers."""
    places = {}
    for one in free_by(p, modulus):
        if tuple(one) not in places:
            for item in group:
                places[tuple(rest(p, times(p, one, item), modulus))] = tuple(one)
    left, sizes = sorted(set(places.values())), []
    while left:
        reached = [left[0]]
        for one in reached:
            for mover in movers:
                there = places[tuple(rest(p, times(p, list(one), mover), modulus))]
                if there not in reached:
                    reached.append(there)
        sizes.append(len(reached))
        left = [one for one in left if one not in reached]
    return sizes


def alike(p, modulus, left, one):
    """The free rests that differ from a polynomial by a multiple of another one."""
    return [told for told in free_by(p, modulus) if left == [1] or rest(p, minus(p, told, one), left) == []]


def told_places(p, modulus, group, prime):
    """The tuple as sets of cosets tell it: those led together stand for one place, by its own moves for `times`."""
    count = dict((tuple(one), many) for one, many in prime_powers_of(p, modulus)).get(tuple(prime), 0)
    left = quotient(p, modulus, taken(p, prime, count))
    near, here = alike(p, modulus, left, [1]), alike(p, modulus, left, prime)
    times_there, sizes = orbit_sizes(p, modulus, group, near), orbit_sizes(p, modulus, group, near + here)
    assert len(set(times_there)) == len(set(sizes)) == 1
    return (len(sizes), (len(prime) - 1) * (sizes[0] // times_there[0]), times_there[0])


def primes_tried(p, modulus):
    """Primes that divide a modulus, and some of low powers that do not."""
    return [one for one, _ in prime_powers_of(p, modulus)] + sieved(p, 1)[:3] + sieved(p, 2)[:2] + sieved(p, 3)[:1]


class PlacesOverTest(unittest.TestCase):
    def test_sets_of_cosets(self):
        for p, modulus, group in fields():
            for prime in primes_tried(p, modulus):
                found = places_over(p, modulus, group, prime)
                self.assertIs(type(found), tuple)
                self.assertEqual(found, told_places(p, modulus, group, prime), (p, modulus, group, prime))

    def test_sum_over_a_prime(self):
        for p, modulus, group in fields():
            index = len(free_by(p, modulus)) // len(group)
            for prime in primes_tried(p, modulus) + [FOURTH[p]]:
                many, degree, count = places_over(p, modulus, group, prime)
                self.assertEqual(many * degree * count, index * (len(prime) - 1))
                if rest(p, modulus, prime) != []:
                    self.assertEqual(count, 1)
            many, degree, count = far_places(p, modulus, group)
            self.assertEqual((many * count, degree), (index, 1))

    def test_lone_rows_tell_the_places_of_all_zeros(self):
        for p, modulus, prime in some_pairs():
            many, power, count = apart_kind(p, modulus, prime)
            self.assertEqual(places_over(p, modulus, [[1]], prime), (many, power * (len(prime) - 1), count))

    def test_group_of_all(self):
        for p, modulus in MODULI:
            for prime in primes_tried(p, modulus) + [SIXTH[p]]:
                self.assertEqual(places_over(p, modulus, free_rests(p, modulus), prime), (1, len(prime) - 1, 1))
            self.assertEqual(far_places(p, modulus, free_rests(p, modulus)), (1, 1, 1))

    def test_greater_groups_have_divisors(self):
        for p, modulus in MODULI:
            groups = groups_by(p, modulus)
            for great in groups:
                for less in [one for one in groups if all(item in great for item in one)]:
                    for prime in primes_tried(p, modulus)[:4]:
                        pairs = zip(places_over(p, modulus, great, prime), places_over(p, modulus, less, prime))
                        self.assertTrue(all(b % a == 0 for a, b in pairs))
                    pairs = zip(far_places(p, modulus, great), far_places(p, modulus, less))
                    self.assertTrue(all(b % a == 0 for a, b in pairs))

    def test_one_field_by_two_moduli(self):
        for p, less, great in [
            (3, [0, 1], [0, 0, 1]), (3, [0, 0, 1], [0, 0, 0, 1]), (3, [0, 1], [0, 1, 1]), (3, [1, 0, 1], [0, 1, 0, 1]),
            (5, [0, 1], [0, 0, 1]), (5, [2, 1], [2, 3, 1]), (7, [0, 1], [0, 3, 1]),
        ]:
            for group in groups_by(p, less):
                other = [one for one in free_rests(p, great) if rest(p, one, less) in group]
                self.assertEqual(far_places(p, less, group), far_places(p, great, other))
                for prime in primes_tried(p, great) + [FOURTH[p]]:
                    self.assertEqual(places_over(p, less, group, prime), places_over(p, great, other, prime))

    def test_prime_many_times(self):
        # All is in one place there for the group [[1]]: the times are as many as the free rests.
        for modulus, many in [([0, 1], 2), ([0, 0, 1], 6), ([0, 0, 0, 1], 18), ([0, 0, 0, 0, 1], 54)]:
            self.assertEqual(places_over(3, modulus, [[1]], [0, 1]), (1, 1, many))
        self.assertEqual(places_over(3, [0, 0, 1, 1], [[1]], [0, 1]), (1, 2, 6))
        self.assertEqual(places_over(3, [0, 0, 2, 1], [[1]], [0, 1]), (2, 1, 6))
        self.assertEqual(places_over(3, [0, 0, 1, 1], [[1]], [1, 1]), (2, 3, 2))

    def test_limits_within_seconds(self):
        for p, modulus in GREATEST:
            start = time.process_time()
            for some in [[], [[2]], free_rests(p, modulus)]:
                group = generated(p, modulus, some)
                index = len(free_rests(p, modulus)) // len(group)
                for prime in [SIXTH[p], [0, 1], FOURTH[p]]:
                    many, degree, count = places_over(p, modulus, group, prime)
                    self.assertEqual(many * degree * count, index * (len(prime) - 1))
            self.assertLess(time.process_time() - start, 10)

    def test_a_group_changed_in_place_is_looked_at_anew(self):
        group = [[1]]
        self.assertEqual(places_over(3, [0, 1], group, [1, 1]), (2, 1, 1))
        self.assertEqual(far_places(3, [0, 1], group), (1, 1, 2))
        group.append([2])
        self.assertEqual(places_over(3, [0, 1], group, [1, 1]), (1, 1, 1))
        self.assertEqual(far_places(3, [0, 1], group), (1, 1, 1))


class FarPlacesTest(unittest.TestCase):
    def test_sets_of_cosets(self):
        for p, modulus, group in fields():
            sizes = orbit_sizes(p, modulus, group, [[number] for number in range(1, p)])
            self.assertEqual(far_places(p, modulus, group), (len(sizes), 1, sizes[0]))

    def test_numbers_in_the_group(self):
        for p in PRIMES:
            for modulus in [[0, 1], [0, 0, 1], [1, 1, 1]]:
                group = least_group(p, modulus, [[number] for number in range(1, p)])
                self.assertEqual(far_places(p, modulus, group)[2], 1)
                self.assertEqual(far_places(p, modulus, [[1]])[2], p - 1)


if __name__ == "__main__":
    unittest.main()
