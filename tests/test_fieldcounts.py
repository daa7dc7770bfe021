"""Promises [39] to [41]: genus, places by degrees, and the polynomial of the classes."""

import time
import unittest

from modulusfields.classcounts import weights_in_classes
from modulusfields.errors import InvalidNumber
from modulusfields.fieldcounts import class_polynomial, further_points, genus, how_many_places, points
from modulusfields.places import far_places, places_over
from modulusfields.rests import cosets, free_rests, generated
from tests.support import (
    free_by, groups_by, least_group, minus, monics, prime_powers_of, quotient, rest, sieved, taken, times,
)
from tests.test_places import MODULI, fields

# Fields at the limits: at most 60 free rests, a genus of at most 30.
GREATEST = [
    (3, [0, 1, 0, 0, 1], []), (3, [0, 0, 0, 0, 1], [[2]]), (3, [1, 2, 0, 1], []), (3, [0, 0, 0, 1], []),
    (5, [0, 1, 1], []), (5, [0, 1, 0, 1], [[4]]), (7, [1, 0, 1], []), (7, [0, 3, 1], []),
]


def small_fields(most):
    """Fields of a genus up to one."""
    return [one for one in fields() if genus(*one) <= most]


def told_genus(p, modulus, group):
    """The genus as the document tells it, by indices of groups that are put together item by item."""
    many = len(free_by(p, modulus))

    def index(further):
        return many // len(least_group(p, modulus, group + further))

    twice = -2 * index([]) + index([]) - index([[number] for number in range(1, p)])
    for prime, count in prime_powers_of(p, modulus):
        for i in range(count):
            part = times(p, quotient(p, modulus, taken(p, prime, count)), taken(p, prime, i))
            near = [one for one in free_by(p, modulus) if part == [1] or rest(p, minus(p, one, [1]), part) == []]
            twice += (len(prime) - 1) * (index([]) - index(near))
    assert twice % 2 == 0
    return twice // 2 + 1


def determinant(rows):
    """The determinant of a table of whole numbers, by the first line."""
    rows, sign, ahead = [list(row) for row in rows], 1, 1
    for k in range(len(rows) - 1):
        if rows[k][k] == 0:
            other = next((i for i in range(k + 1, len(rows)) if rows[i][k]), None)
            if other is None:
                return 0
            rows[k], rows[other], sign = rows[other], rows[k], -sign
        for i in range(k + 1, len(rows)):
            for j in range(k + 1, len(rows)):
                rows[i][j] = (rows[i][j] * rows[k][k] - rows[i][k] * rows[k][j]) // ahead
        ahead = rows[k][k]
    return sign * rows[-1][-1]


def divides(one, other):
    """Whether a list of numbers, the first one 1, divides another one as polynomials."""
    left = list(other)
    for place in range(len(other) - len(one) + 1):
        head = left[place]
        for k, number in enumerate(one):
            left[place + k] -= head * number
    return not any(left)


def multiplied(one, other):
    found = [0] * (len(one) + len(other) - 1)
    for i, a in enumerate(one):
        for j, b in enumerate(other):
            found[i + j] += a * b
    return found


class GenusTest(unittest.TestCase):
    def test_as_the_document_tells(self):
        for p, modulus, group in fields():
            found = genus(p, modulus, group)
            self.assertIs(type(found), int)
            self.assertEqual(found, told_genus(p, modulus, group), (p, modulus, group))
            self.assertGreaterEqual(found, 0)

    def test_group_of_all(self):
        for p, modulus in MODULI:
            self.assertEqual(genus(p, modulus, free_rests(p, modulus)), 0)

    def test_greater_groups_have_no_greater_genus(self):
        for p, modulus in MODULI:
            groups = groups_by(p, modulus)
            told = {repr(group): genus(p, modulus, group) for group in groups}
            for great in groups:
                for less in [one for one in groups if all(item in great for item in one)]:
                    self.assertLessEqual(told[repr(great)], told[repr(less)])

    def test_primes_many_times(self):
        # By T ** 2: 2 * g - 2 is -12, and 6 - 3 for the far place, and 6 - 1 and 6 - 2 for T.
        self.assertEqual([genus(3, [0] * e + [1], [[1]]) for e in [1, 2, 3, 4]], [0, 1, 10, 55])
        self.assertEqual(genus(7, [0, 0, 1], [[1]]), 15)


class OneFieldTest(unittest.TestCase):
    def test_one_field_by_two_moduli(self):
        for p, less, great in [
            (3, [0, 1], [0, 0, 1]), (3, [0, 0, 1], [0, 0, 0, 1]), (3, [0, 1], [0, 1, 1]), (3, [1, 0, 1], [0, 1, 0, 1]),
            (3, [0, 0, 1], [0, 0, 1, 1]), (5, [0, 1], [0, 0, 1]), (5, [2, 1], [2, 3, 1]), (7, [0, 1], [0, 3, 1]),
        ]:
            for group in groups_by(p, less):
                other = [one for one in free_rests(p, great) if rest(p, one, less) in group]
                self.assertEqual(genus(p, less, group), genus(p, great, other))
                self.assertEqual(class_polynomial(p, less, group), class_polynomial(p, great, other))
                for count in [1, 2, 3, 4, 6, 12, 60]:
                    self.assertEqual(points(p, less, group, count), points(p, great, other, count))
                    told = how_many_places(p, less, group, count)
                    self.assertEqual(told, how_many_places(p, great, other, count))
                    self.assertEqual(further_points(p, less, group, count), further_points(p, great, other, count))


class PlacesByDegreesTest(unittest.TestCase):
    def test_prime_by_prime(self):
        for p, greatest in [(3, 4), (5, 3), (7, 2)]:
            primes = [one for power in range(1, greatest + 1) for one in sieved(p, power)]
            for modulus in [one for q, one in MODULI if q == p]:
                for group in groups_by(p, modulus)[::2]:
                    told = [places_over(p, modulus, group, prime) for prime in primes] + [far_places(p, modulus, group)]
                    for degree in range(1, greatest + 1):
                        many = sum(one[0] for one in told if one[1] == degree)
                        self.assertEqual(how_many_places(p, modulus, group, degree), many, (p, modulus, group, degree))

    def test_points_are_sums_of_places(self):
        for p, modulus, group in fields()[::2]:
            for count in [1, 2, 3, 4, 6, 8, 9, 12]:
                divisors = [one for one in range(1, count + 1) if count % one == 0]
                total = sum(one * how_many_places(p, modulus, group, one) for one in divisors)
                self.assertEqual(points(p, modulus, group, count), total, (p, modulus, group, count))

    def test_points_by_weights(self):
        for p, modulus, group in fields()[::2]:
            free = free_rests(p, modulus)
            index = len(free) // len(group)
            bound = [places_over(p, modulus, group, prime) for prime, _ in prime_powers_of(p, modulus)]
            bound.append(far_places(p, modulus, group))
            for count in [1, 2, 5, 12]:
                weights = weights_in_classes(p, modulus, count)
                total = index * sum(weights[free.index(one)] for one in group)
                total += sum(many * degree for many, degree, _ in bound if count % degree == 0)
                self.assertEqual(points(p, modulus, group, count), total)

    def test_degrees_without_places(self):
        # By T ** 3, T + 1 and T + 2 have the orders 3 and 6, and T ** 4 + c * T ** 3 + 1 is prime for no c.
        self.assertEqual([how_many_places(3, [0, 0, 0, 1], [[1]], degree) for degree in [1, 2, 3, 4]], [10, 0, 6, 0])
        self.assertEqual(how_many_places(3, [0, 0, 1], [[1]], 1), 4)
        self.assertEqual(how_many_places(3, [0, 1], [[1], [2]], 1), 4)

    def test_field_of_the_group_of_all(self):
        # All fractions of polynomials: p ** count + 1 points.
        for p, modulus in MODULI:
            for count in [1, 2, 3, 7, 60]:
                self.assertEqual(points(p, modulus, free_rests(p, modulus), count), p ** count + 1)
            self.assertEqual(how_many_places(p, modulus, free_rests(p, modulus), 1), p + 1)


class ClassPolynomialTest(unittest.TestCase):
    def test_rule(self):
        for p, modulus, group in small_fields(12):
            half, found = genus(p, modulus, group), class_polynomial(p, modulus, group)
            self.assertEqual((len(found), found[0]), (2 * half + 1, 1))
            self.assertTrue(all(type(number) is int for number in found))
            # With 0 for all further ones the same holds for all places.
            numbers = found + [0] * 4
            counts = [points(p, modulus, group, i) for i in range(1, len(numbers))]
            for k in range(1, len(numbers)):
                total = sum((counts[i - 1] - p ** i - 1) * numbers[k - i] for i in range(1, k + 1))
                self.assertEqual(total, k * numbers[k], (p, modulus, group, k))

    def test_turned_about(self):
        for p, modulus, group in fields():
            found = class_polynomial(p, modulus, group)
            half = len(found) // 2
            self.assertEqual([found[2 * half - i] for i in range(half + 1)],
                             [p ** (half - i) * found[i] for i in range(half + 1)])
            # The number of the classes.
            self.assertGreater(sum(found), 0)

    def test_group_of_all(self):
        for p, modulus in MODULI:
            self.assertEqual(class_polynomial(p, modulus, free_rests(p, modulus)), [1])

    def test_greater_groups_have_divisors(self):
        for p, modulus in MODULI:
            groups = groups_by(p, modulus)
            told = {repr(group): class_polynomial(p, modulus, group) for group in groups}
            for great in groups:
                for less in [one for one in groups if all(item in great for item in one)]:
                    self.assertTrue(divides(told[repr(great)], told[repr(less)]), (p, modulus, great, less))

    def test_index_4_with_all_squares(self):
        tried = 0
        for p, modulus, group in fields():
            free = free_rests(p, modulus)
            squares = [rest(p, times(p, one, one), modulus) for one in free]
            if len(free) == 4 * len(group) and all(one in group for one in squares):
                tried += 1
                above = [one for one in groups_by(p, modulus)
                         if len(one) == 2 * len(group) and all(item in one for item in group)]
                self.assertEqual(len(above), 3)
                product = [1]
                for one in above:
                    product = multiplied(product, class_polynomial(p, modulus, one))
                self.assertEqual(class_polynomial(p, modulus, group), product)
                self.assertEqual(genus(p, modulus, group), sum(genus(p, modulus, one) for one in above))
        self.assertGreater(tried, 3)

    def test_determinant(self):
        for p, modulus, group in fields():
            index = len(free_rests(p, modulus)) // len(group)
            if index > 24 or p == 7 and index > 12:
                continue
            classes = [{tuple(one) for one in coset} for coset in cosets(p, modulus, group)]
            heads = [list(min(coset)) for coset in classes]
            counts = [[0] * (len(modulus) - 1) for _ in classes]
            for power in range(len(modulus) - 1):
                for one in monics(p, power):
                    for place, coset in enumerate(classes):
                        counts[place][power] += tuple(one) in coset
            places = {one: place for place, coset in enumerate(classes) for one in coset}
            primes = [prime for prime, _ in prime_powers_of(p, modulus)]
            for u in [2, -1, 3, 0, -2]:
                sums = [sum(u ** n * many for n, many in enumerate(line)) for line in counts]
                table = [[0] * len(classes) for _ in classes]
                for b, head in enumerate(heads):
                    for k, total in enumerate(sums):
                        a = places[tuple(rest(p, times(p, heads[k], head), modulus))]
                        table[a][b] = total
                left = determinant(table)
                for prime in primes:
                    left *= 1 - u ** (len(prime) - 1)
                right = sum(table[0]) * sum(c * u ** i for i, c in enumerate(class_polynomial(p, modulus, group)))
                right *= (1 - u) ** (far_places(p, modulus, group)[0] - 1)
                for many, degree, _ in [places_over(p, modulus, group, prime) for prime in primes]:
                    right *= (1 - u ** degree) ** many
                self.assertEqual(left, right, (p, modulus, group, u))

    def test_limits_within_seconds(self):
        for p, modulus, some in GREATEST:
            start = time.process_time()
            group = generated(p, modulus, some)
            half = genus(p, modulus, group)
            self.assertLessEqual(half, 30)
            found = class_polynomial(p, modulus, group)
            self.assertEqual(len(found), 2 * half + 1)
            many, there = further_points(p, modulus, group, 60), points(p, modulus, group, 60)
            self.assertEqual(many, there)
            self.assertGreaterEqual(how_many_places(p, modulus, group, 60), 0)
            self.assertGreater(further_points(p, modulus, group, 1000), 0)
            self.assertLess(time.process_time() - start, 10)


class FurtherPointsTest(unittest.TestCase):
    def test_what_points_tells(self):
        for p, modulus, group in small_fields(10)[::2]:
            for count in [1, 2, 3, 5, 8, 20, 60]:
                self.assertEqual(further_points(p, modulus, group, count), points(p, modulus, group, count))

    def test_rule_up_to_1000(self):
        for p, modulus in [(3, [1, 0, 1]), (3, [0, 0, 1]), (5, [0, 1]), (7, [0, 0, 1])]:
            group = [[1]]
            numbers = class_polynomial(p, modulus, group)
            further = {count: further_points(p, modulus, group, count) for count in range(1000 - len(numbers), 1001)}
            for k in range(1000 - 1, 1001):
                total = sum((further[k - i] - p ** (k - i) - 1) * numbers[i] for i in range(len(numbers)))
                self.assertEqual(total, 0)

    def test_counts_beyond(self):
        for value in [1001, 10 ** 29, 0, -1, True]:
            with self.assertRaises(InvalidNumber) as caught:
                further_points(3, [0, 1], [[1]], value)
            self.assertIs(caught.exception.value, value)
        self.assertEqual(further_points(3, [0, 1], [[1]], 1000), 3 ** 1000 + 1)
        self.assertEqual(further_points(7, [0, 1], [[1]], 1000), 7 ** 1000 + 1)

    def test_a_group_changed_in_place_is_looked_at_anew(self):
        group = [[1]]
        self.assertEqual(class_polynomial(3, [0, 0, 1], group), [1, 0, 3])
        self.assertEqual([genus(3, [0, 0, 1], group), points(3, [0, 0, 1], group, 2)], [1, 16])
        group.append([2])
        self.assertEqual(class_polynomial(3, [0, 0, 1], group), [1])
        self.assertEqual([genus(3, [0, 0, 1], group), points(3, [0, 0, 1], group, 2)], [0, 10])
        self.assertEqual(how_many_places(3, [0, 0, 1], group, 1), 4)
        self.assertEqual(further_points(3, [0, 0, 1], group, 2), 10)


if __name__ == "__main__":
    unittest.main()
