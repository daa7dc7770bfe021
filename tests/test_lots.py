"""Promise [22]: rows of cosets."""

import time
import unittest

from modulusfields.apart import apart, apart_kind, led, row_by
from modulusfields.lots import is_lot_row, lot_rows
from modulusfields.rests import free_rests, generated
from tests.support import (
    any_values, bad_polynomials, by, free_by, groups_by, minus, monic_divisors, put_by, rest, rests_by, row_rest,
    row_times, sieved, some_pairs, told_deed,
)
from tests.test_apart import GREATEST, whole_row

# Pairs of a modulus and a prime that does not divide it.
PAIRS = [pair for pair in some_pairs() if rest(*pair) != []]


def led_together(p, modulus, prime, group):
    """The lot rows as products of the lone rows to which the group's items lead each one of them."""
    found = []
    for row in apart(p, modulus, prime):
        parts = []
        for item in group:
            part = led(p, modulus, prime, row, item)
            if part not in parts:
                parts.append(part)
        product = whole_row(p, prime, parts, 1)
        if product not in found:
            found.append(product)
    return sorted(found)


def zeros_together(p, modulus, prime, group):
    """The lot rows as products of `X` less zeros, if these are rests by the prime."""
    free = free_by(p, modulus)
    zeros = [
        one for one in rests_by(p, prime)
        if put_by(p, prime, told_deed(p, modulus), one) == []
        and all(put_by(p, prime, told_deed(p, divisor), one) for divisor in monic_divisors(p, modulus)[:-1])
    ]
    assert len(zeros) == len(free)
    found = []
    for zero in zeros:
        row = [[1]]
        for item in group:
            turned = put_by(p, prime, told_deed(p, item), zero)
            row = by(p, prime, row_times(p, row, [minus(p, [], turned), [1]]))
        if row not in found:
            found.append(row)
    return sorted(found)


class LotRowsTest(unittest.TestCase):
    def test_products_of_the_lone_rows_to_which_items_lead(self):
        told = 0
        for p, modulus, prime in PAIRS:
            for group in groups_by(p, modulus):
                rows = lot_rows(p, modulus, prime, group)
                if rest(p, prime, modulus) in group:
                    told += 1
                    self.assertEqual(rows, led_together(p, modulus, prime, group), (p, modulus, prime, group))
                else:
                    self.assertIsNone(rows)
        self.assertGreater(told, 60)

    def test_products_over_zeros_that_are_rests(self):
        tried = [(3, [0, 1], 3), (3, [0, 0, 1], 2), (3, [0, 1, 1], 3), (3, [1, 0, 1], 3)]
        for p, modulus, power in tried + [(5, [0, 1], 2), (5, [2, 1], 1), (7, [0, 1], 2), (7, [3, 1], 1)]:
            prime = [one for one in sieved(p, power) if rest(p, one, modulus) == [1]][0]
            for group in groups_by(p, modulus):
                self.assertEqual(lot_rows(p, modulus, prime, group), zeros_together(p, modulus, prime, group))

    def test_numbers_and_powers(self):
        for p, modulus, prime in PAIRS:
            many, power, _ = apart_kind(p, modulus, prime)
            for group in groups_by(p, modulus):
                rows = lot_rows(p, modulus, prime, group)
                if rows is not None:
                    self.assertEqual(len(rows) * len(group), many * power)
                    self.assertEqual(rows, sorted(rows))
                    for row in rows:
                        self.assertEqual((len(row), row[-1]), (len(group) + 1, [1]))
                        self.assertTrue(all(len(item) < len(prime) for item in row))
                    self.assertEqual(whole_row(p, prime, rows, 1), row_by(p, modulus, prime))

    def test_group_of_the_prime_and_group_of_all(self):
        for p, modulus, prime in PAIRS:
            group = generated(p, modulus, [rest(p, prime, modulus)])
            self.assertEqual(lot_rows(p, modulus, prime, group), apart(p, modulus, prime))
            self.assertEqual(lot_rows(p, modulus, prime, free_rests(p, modulus)), [row_by(p, modulus, prime)])

    def test_rows_of_a_group_are_products_of_those_within(self):
        for p, modulus, prime in PAIRS:
            told = [group for group in groups_by(p, modulus) if rest(p, prime, modulus) in group]
            for great in told:
                for less in told:
                    if all(item in great for item in less):
                        rows = lot_rows(p, modulus, prime, less)
                        for row in lot_rows(p, modulus, prime, great):
                            parts = [one for one in rows if row_rest(p, prime, row, one) == []]
                            self.assertEqual(len(parts) * len(less), len(great))
                            self.assertEqual(whole_row(p, prime, parts, 1), row)

    def test_told_by_hand(self):
        # The zeros of T by T + 1 are 1 and 2, by T + 2 they are none.
        self.assertEqual(lot_rows(3, [0, 1], [1, 1], [[1]]), [[[1], [1]], [[2], [1]]])
        self.assertEqual(lot_rows(3, [0, 1], [1, 1], [[1], [2]]), [[[2], [], [1]]])
        self.assertIsNone(lot_rows(3, [0, 1], [2, 1], [[1]]))
        self.assertEqual(lot_rows(3, [0, 1], [2, 1], [[1], [2]]), [[[1], [], [1]]])
        self.assertIsNone(lot_rows(5, [0, 1], [2, 1], [[1], [4]]))
        self.assertEqual(lot_rows(5, [0, 1], [4, 1], [[1], [4]]), apart(5, [0, 1], [4, 1]))

    def test_limits_within_seconds(self):
        for p, modulus, prime in GREATEST:
            if rest(p, modulus, prime) != []:
                first = rest(p, prime, modulus)
                for some in [[first], [first, [2]], free_rests(p, modulus)]:
                    group = generated(p, modulus, some)
                    start = time.process_time()
                    rows = lot_rows(p, modulus, prime, group)
                    self.assertTrue(all(is_lot_row(p, modulus, prime, group, row) for row in rows[:2]))
                    self.assertLess(time.process_time() - start, 10)
                    self.assertEqual(len(rows) * len(group), len(free_rests(p, modulus)))

    def test_a_group_changed_in_place_is_looked_at_anew(self):
        group = [[1]]
        self.assertEqual(lot_rows(3, [0, 1], [1, 1], group), [[[1], [1]], [[2], [1]]])
        group.append([2])
        self.assertEqual(lot_rows(3, [0, 1], [1, 1], group), [[[2], [], [1]]])


class IsLotRowTest(unittest.TestCase):
    def test_just_the_lot_rows(self):
        tried = [(3, [0, 0, 1], [1, 1]), (3, [0, 2, 1], [1, 0, 1]), (5, [0, 1], [4, 1]), (7, [0, 1], [2, 1])]
        for p, modulus, prime in tried:
            for group in groups_by(p, modulus):
                rows = lot_rows(p, modulus, prime, group)
                values = apart(p, modulus, prime) + [row_by(p, modulus, prime)]
                values += [row for other in groups_by(p, modulus) for row in lot_rows(p, modulus, prime, other) or []]
                for row in values:
                    self.assertIs(is_lot_row(p, modulus, prime, group, row), rows is not None and row in rows)

    def test_any_value(self):
        group, one = [[1], [2]], [[2], [], [1]]
        self.assertIs(is_lot_row(3, [0, 1], [1, 1], group, one), True)
        others = [
            [], [[]], [[1]], [[2], [], [True]], [[2], [], [1], []], [[2], [], [1, 0]], [[2, 0], [], [1]],
            [[2], [0], [1]], [[2], (), [1]], [(2,), [], [1]], ([2], [], [1]), [[2], None, [1]], [[5], [], [1]],
            [[2], [], [4]], [[-1], [], [1]], [[2, 1], [], [1]], [[1], [], [1]], [2, 0, 1], [[[2]], [], [1]], [one],
            [[2], [], [2]],
        ]
        for value in any_values() + bad_polynomials(3) + others:
            self.assertIs(is_lot_row(3, [0, 1], [1, 1], group, value), False, value)

    def test_false_for_every_value_where_there_are_none(self):
        rows = apart(3, [0, 0, 1], [1, 1]) + [row_by(3, [0, 0, 1], [1, 1]), [[1], [1]], [[], [1]], [[1]], []]
        for value in any_values() + rows:
            self.assertIs(is_lot_row(3, [0, 0, 1], [1, 1], [[1], [2]], value), False)


if __name__ == "__main__":
    unittest.main()
