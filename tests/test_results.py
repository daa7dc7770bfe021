"""Promises [1] and [2]: arguments stay, results are new each time, and no list stands in one twice."""

import unittest
from copy import deepcopy

from modulusfields import (
    apart, classcounts, classprimes, deeds, fieldcounts, lots, modules, places, primes, products, residues, rests,
    turning, zeros,
)
from modulusfields.errors import InvalidList
from tests.support import lists_within

CALLS = [
    (primes.is_modulus, [3, [0, 1]]),
    (primes.is_prime, [7, [1, 0, 1]]),
    (primes.primes_of, [3, 1]),
    (primes.primes_of, [5, 3]),
    (primes.factors, [3, [0, 1]]),
    (primes.factors, [3, [1, 0, 1]]),
    (primes.factors, [3, [0, 0, 2, 1]]),
    (rests.rest_of, [3, [1, 0, 1], []]),
    (rests.rest_of, [3, [1, 0, 1], [1, 2]]),
    (rests.rest_of, [3, [1, 0, 1], [1, 2, 1, 1, 2]]),
    (rests.how_many_free, [5, [0, 0, 0, 1]]),
    (rests.free_rests, [7, [0, 0, 1]]),
    (rests.rest_product, [3, [1, 0, 1], [1], [0, 1]]),
    (rests.rest_product, [3, [1, 0, 1], [0, 1], [1]]),
    (rests.rest_product, [3, [1, 0, 1], [], [1]]),
    (rests.rest_opposite, [3, [1, 0, 1], [1]]),
    (rests.rest_opposite, [3, [1, 0, 1], [0, 1]]),
    (rests.order_of, [3, [1, 0, 1], [1, 1]]),
    (rests.is_group, [3, [1, 0, 1], [[1], [2]]]),
    (rests.generated, [3, [1, 0, 1], []]),
    (rests.generated, [3, [1, 0, 1], [[1]]]),
    (rests.generated, [3, [1, 0, 1], [[1], [2]]]),
    (rests.generated, [3, [0, 0, 1], [[2, 1], [1], [2, 1]]]),
    (rests.cosets, [3, [0, 0, 1], [[1], [2]]]),
    (rests.cosets, [5, [0, 1], [[1], [2], [3], [4]]]),
    (rests.cosets, [5, [0, 1], [[1]]]),
    (deeds.deed, [3, []]),
    (deeds.deed, [3, [2]]),
    (deeds.deed, [3, [0, 1, 2]]),
    (deeds.is_short, [3, [[1], [2]]]),
    (deeds.short_sum, [3, [], [[], [1]]]),
    (deeds.short_sum, [3, [[], [1], [], [1]], [[], [2]]]),
    (deeds.short_sum, [3, [[1], [1]], [[1], [2]]]),
    (deeds.short_put, [3, [[1]], [[], [], [1]]]),
    (deeds.short_put, [3, [[], [], [1]], [[1]]]),
    (deeds.short_put, [3, [[0, 1], [1]], [[0, 1], [1]]]),
    (deeds.short_put, [3, [[], [1]], [[], [], [1]]]),
    (deeds.unlike_place, [3, [[0, 1], [2]]]),
    (deeds.unlike_place, [3, [[0, 1], [1]]]),
    (deeds.acted, [3, [1, 0, 1], [1], [0, 1]]),
    (deeds.acted, [3, [1, 0, 1], [0, 0, 1], [0, 1]]),
    (products.monic_product, [3, 0]),
    (products.monic_product, [3, 2]),
    (products.monic_multiple, [3, 0]),
    (products.monic_multiple, [5, 2]),
    (products.lower_row, [3, 0]),
    (products.lower_row, [3, 3]),
    (products.lower_value, [3, 0, [0, 1]]),
    (products.lower_value, [3, 1, [2]]),
    (products.through, [3, [[1]]]),
    (products.through, [3, [[], [], []]]),
    (products.through, [3, [[1], [0, 1], [0, 0, 1]]]),
    (products.summed, [3, [[1], []], [1]]),
    (products.summed, [3, [[1], [0, 2]], [0, 0, 1]]),
    (zeros.own_row, [3, [0, 1]]),
    (zeros.own_row, [7, [3, 1]]),
    (zeros.own_row, [3, [0, 0, 1, 1]]),
    (zeros.lean_row, [5, [0, 0, 1]]),
    (zeros.row_product, [3, [[], [1]], [[], [], [1, 2]]]),
    (zeros.row_product, [3, [[1]], [[2], [], [], [1]]]),
    (zeros.row_product, [3, [[2], [], [], [1]], [[1]]]),
    (zeros.put_in, [3, [], [0, 1]]),
    (zeros.put_in, [3, [[1, 1]], [0, 1]]),
    (zeros.put_in, [3, [[], [], [], [1]], [0, 0, 1]]),
    (zeros.own_value, [3, [0, 1], [1, 0, 1], [0, 1]]),
    (apart.row_by, [3, [0, 0, 1], [1, 1]]),
    (apart.row_by, [3, [0, 1], [0, 1]]),
    (apart.apart_kind, [3, [0, 0, 1], [1, 1]]),
    (apart.apart, [3, [0, 1], [2, 1]]),
    (apart.apart, [3, [0, 1], [0, 1]]),
    (apart.apart, [3, [0, 0, 1], [1, 1]]),
    (apart.apart, [7, [0, 1], [1, 1]]),
    (apart.is_apart, [3, [0, 0, 1], [1, 1], [[1], [2], [], [1]]]),
    (apart.led, [3, [0, 1], [2, 1], [[1], [], [1]], [1]]),
    (apart.led, [3, [0, 1], [0, 1], [[], [1]], [2]]),
    (apart.led, [3, [0, 0, 1], [1, 1], [[1], [2], [], [1]], [2]]),
    (apart.led, [3, [0, 0, 1], [1, 1], [[1], [2], [], [1]], [1]]),
    (apart.leader, [3, [0, 0, 1], [1, 1], [[1], [2], [], [1]], [[2], [2], [], [1]]]),
    (apart.zeros_by, [3, [0, 1], [0, 1]]),
    (apart.zeros_by, [3, [0, 1], [1, 1]]),
    (apart.zeros_by, [3, [0, 1], [2, 1]]),
    (lots.lot_rows, [3, [0, 1], [1, 1], [[1]]]),
    (lots.lot_rows, [3, [0, 1], [1, 1], [[1], [2]]]),
    (lots.lot_rows, [3, [0, 1], [2, 1], [[1]]]),
    (lots.lot_rows, [3, [0, 0, 1], [1, 1], [[1], [1, 1], [1, 2]]]),
    (lots.is_lot_row, [3, [0, 1], [1, 1], [[1], [2]], [[2], [], [1]]]),
    (modules.mark_of, [3, [1, 0, 1], []]),
    (modules.mark_of, [3, [1, 0, 1], [1, 1]]),
    (modules.how_many_marked, [3, [1, 0, 1], [0, 1]]),
    (modules.marked, [3, [1, 0, 1], [1]]),
    (modules.marked, [3, [1, 0, 1], [0, 1]]),
    (modules.marked, [3, [1, 0, 1], [0, 0, 1]]),
    (modules.marked, [3, [1, 0, 1], [1, 1]]),
    (modules.how_many_killed, [3, [1, 0, 1], []]),
    (modules.killed, [3, [1, 0, 1], []]),
    (modules.killed, [3, [1, 0, 1], [2]]),
    (modules.killed, [3, [1, 2, 0, 1], [1, 1]]),
    (modules.is_maker, [3, [1, 0, 1], [0, 1]]),
    (modules.first_maker, [3, [1, 1]]),
    (modules.first_maker, [3, [1, 2, 0, 1]]),
    (modules.answers, [3, [1, 0, 1], [0, 1], [1, 1]]),
    (modules.answers, [3, [1, 0, 1], [1], [1, 1]]),
    (modules.answers, [3, [1, 0, 1], [0, 1], [1]]),
    (modules.answer, [3, [1, 0, 1], [0, 1], [1, 1]]),
    (modules.answer, [3, [1, 0, 1], [1], [1, 1]]),
    (modules.answer, [3, [1, 0, 1], [], []]),
    (modules.answer, [3, [1, 0, 1], [], [1]]),
    (modules.bar, [3, [1, 0, 1], [0, 1], [1]]),
    (modules.bar, [3, [1, 0, 1], [], [1]]),
    (modules.bar, [3, [1, 0, 1], [1], [1]]),
    (modules.prime_parts, [3, [1, 0, 1], [1, 1]]),
    (modules.prime_parts, [3, [1, 2, 0, 1], [0, 1]]),
    (modules.prime_parts, [3, [1, 2, 0, 1], []]),
    (modules.common_mark, [3, [1, 0, 1], []]),
    (modules.common_mark, [3, [1, 0, 1], [[1, 1], [1, 1], []]]),
    (residues.residue, [3, [1, 0, 1], [1, 1]]),
    (residues.residue, [3, [0, 1], [0, 1]]),
    (residues.how_many_with, [3, [1, 0, 1], 2]),
    (turning.walk, [3, [0, 1], [1]]),
    (turning.walk, [3, [1, 0, 1], [1, 1]]),
    (turning.walk, [3, [1, 0, 2, 1], [0, 0, 0, 0, 1, 2]]),
    (turning.walk, [5, [1, 2, 0, 1, 1], [1, 2, 0, 1, 1]]),
    (turning.is_walk, [3, [0, 1], [1, 1], [("rest", [0, 1], [1], 1)]]),
    (turning.root, [3, [1, 0, 1], 1, [1, 1]]),
    (turning.root, [3, [1, 0, 1], 2, [2]]),
    (turning.root, [3, [1, 0, 1], 2, []]),
    (turning.root, [3, [1, 0, 1], 2, [1, 1]]),
    (turning.power_or_bar, [3, 1, [1, 1]]),
    (turning.power_or_bar, [3, 2, []]),
    (turning.power_or_bar, [3, 2, [1, 2, 1]]),
    (turning.power_or_bar, [3, 2, [2]]),
    (classcounts.monics_in_classes, [3, [0, 0, 1], 0]),
    (classcounts.monics_in_classes, [3, [0, 0, 1], 3]),
    (classcounts.weights_in_classes, [3, [0, 0, 1], 0]),
    (classcounts.weights_in_classes, [3, [0, 0, 1], 3]),
    (classprimes.primes_in_class, [3, [0, 0, 1], 5, [1, 2]]),
    (classprimes.primes_in_classes, [3, [0, 0, 1], 0]),
    (classprimes.primes_in_classes, [3, [0, 0, 1], 5]),
    (classprimes.primes_of_order, [3, [0, 0, 1], 4, 2]),
    (classprimes.first_prime, [3, [0, 0, 1], [1]]),
    (classprimes.first_prime, [3, [0, 0, 1], [1, 1]]),
    (places.places_over, [3, [0, 0, 1], [[1], [2]], [1, 1]]),
    (places.places_over, [3, [0, 0, 1], [[1], [2]], [0, 1]]),
    (places.far_places, [3, [0, 0, 1], [[1]]]),
    (fieldcounts.genus, [3, [1, 0, 1], [[1]]]),
    (fieldcounts.how_many_places, [3, [1, 0, 1], [[1]], 2]),
    (fieldcounts.points, [3, [1, 0, 1], [[1], [2]], 2]),
    (fieldcounts.class_polynomial, [3, [0, 1], [[1]]]),
    (fieldcounts.class_polynomial, [3, [1, 0, 1], [[1]]]),
    (fieldcounts.further_points, [3, [1, 0, 1], [[1]], 7]),
]

# What is returned that is no list and no Boolean.
KINDS = {
    "order_of": int, "apart_kind": tuple, "residue": int, "power_or_bar": tuple, "primes_in_class": int,
    "primes_of_order": int, "places_over": tuple, "far_places": tuple, "genus": int, "points": int,
    "further_points": int,
}
# What returns None where there is nothing of the kind.
PERHAPS = {
    "lot_rows": list, "marked": list, "answer": list, "bar": list, "root": list, "unlike_place": int,
    "first_prime": list,
}


class ResultsTest(unittest.TestCase):
    def test_arguments_stay(self):
        for function, arguments in deepcopy(CALLS):
            kept = deepcopy(arguments)
            function(*arguments)
            self.assertEqual(repr(arguments), repr(kept), function.__name__)

    def test_results_are_new(self):
        for function, arguments in deepcopy(CALLS):
            first, second = function(*arguments), function(*arguments)
            self.assertEqual(repr(first), repr(second))
            objects = lists_within([first]) + lists_within([second]) + lists_within(arguments)
            self.assertEqual(len(objects), len({id(one) for one in objects}), (function.__name__, arguments))

    def test_changed_results_change_no_later_answer(self):
        for function, arguments in deepcopy(CALLS):
            first = function(*arguments)
            told = repr(first)
            for one in lists_within(first):
                one.append(9)
                one.insert(0, "changed")
            self.assertEqual(repr(function(*arguments)), told)

    def test_changed_arguments_change_no_earlier_answer(self):
        for function, arguments in deepcopy(CALLS):
            first = function(*arguments)
            told = repr(first)
            for one in lists_within(arguments):
                one.append(9)
            self.assertEqual(repr(first), told)

    def test_one_list_handed_in_twice(self):
        one, modulus = [2], [0, 1]
        self.assertEqual(rests.rest_product(3, modulus, one, one), [1])
        self.assertEqual(rests.generated(3, modulus, [one, one]), [[1], [2]])
        self.assertEqual(rests.rest_of(3, modulus, modulus), [])
        self.assertEqual((one, modulus), ([2], [0, 1]))

    def test_one_row_handed_in_twice(self):
        one, item = [[0, 1], [1]], [0, 1]
        self.assertEqual(deeds.short_put(3, one, one), [[0, 0, 1], [0, 1, 0, 1], [1]])
        self.assertEqual(deeds.short_sum(3, one, one), [[0, 2], [2]])
        self.assertEqual(zeros.row_product(3, one, one), [[0, 0, 1], [0, 2], [1]])
        self.assertEqual(zeros.put_in(3, [item, item], item), [[0, 1], [0, 0, 1], [], [0, 1]])
        self.assertEqual(deeds.short_sum(3, [item, item], []), [[0, 1], [0, 1]])
        self.assertEqual(products.through(3, [item, item]), [[0, 1], [0, 1, 2]])
        self.assertEqual((one, item), ([[0, 1], [1]], [0, 1]))

    def test_items_of_one_list_handed_in_are_not_shared(self):
        item = [1]
        for found in [
            deeds.short_sum(3, [item, item], []), deeds.short_sum(3, [], [item, item]),
            deeds.short_put(3, [item], [item, item]), zeros.row_product(3, [item, item], [item]),
            zeros.put_in(3, [item, item], [0, 1]), products.through(3, [item, item, item]),
        ]:
            objects = lists_within([found, item])
            self.assertEqual(len(objects), len({id(one) for one in objects}))

    def test_refused_calls_change_nothing(self):
        some = [[1], [0, 1]]
        with self.assertRaises(InvalidList):
            rests.generated(3, [0, 1], some)
        self.assertEqual(some, [[1], [0, 1]])
        self.assertEqual(rests.generated(3, [0, 1], [[1]]), [[1]])

    def test_kinds_of_results(self):
        for function, arguments in deepcopy(CALLS):
            name, found = function.__name__, function(*arguments)
            start = name.split("_")[0]
            kind = {"is": bool, "how": int}.get(start, KINDS.get(name, PERHAPS.get(name, list)))
            self.assertTrue(type(found) is kind or found is None and name in PERHAPS, name)


if __name__ == "__main__":
    unittest.main()
