"""The examples of the document, word for word."""

import os
import unittest

DOCUMENT = os.path.join(os.path.dirname(__file__), "..", "..", "shared", "DOC.md")

# Promises [6] to [8].
RESTS = """\
from modulusfields.primes import factors, is_modulus, is_prime, primes_of
from modulusfields.rests import cosets, free_rests, generated, how_many_free, is_group, order_of, rest_of, rest_opposite, rest_product
[is_modulus(3, [0, 1]), is_modulus(3, [1, 2]), is_modulus(7, [0, 0, 0, 1]), is_prime(3, [1, 0, 1]), is_prime(5, [1, 0, 1]), primes_of(3, 2), factors(3, [0, 0, 2, 1])]
# [True, False, False, True, False, [[1, 0, 1], [2, 1, 1], [2, 2, 1]], [([0, 1], 2), ([2, 1], 1)]]
[rest_of(3, [1, 0, 1], [0, 0, 0, 1]), how_many_free(3, [0, 0, 1]), free_rests(3, [0, 0, 1]), rest_product(3, [1, 0, 1], [0, 1], [1, 1]), rest_opposite(3, [1, 0, 1], [0, 1])]
# [[0, 2], 6, [[1], [1, 1], [1, 2], [2], [2, 1], [2, 2]], [2, 1], [0, 2]]
[order_of(3, [1, 0, 1], [0, 1]), order_of(3, [1, 0, 1], [1, 1]), generated(3, [1, 0, 1], [[0, 1]]), is_group(3, [1, 0, 1], [[1], [2]]), is_group(3, [1, 0, 1], [[2], [1]])]
# [4, 8, [[0, 1], [0, 2], [1], [2]], True, False]
[cosets(3, [0, 0, 1], [[1], [2]]), cosets(3, [0, 1], [[1], [2]]), generated(3, [0, 0, 1], [])]
# [[[[1], [2]], [[1, 1], [2, 2]], [[1, 2], [2, 1]]], [[[1], [2]]], [[1]]]
"""

# Promises [9] to [14].
DEEDS = """\
from modulusfields.deeds import acted, deed, is_short, short_put, short_sum, unlike_place
from modulusfields.products import lower_row, lower_value, monic_multiple, monic_product, summed, through
[deed(3, [0, 1]), deed(3, [0, 0, 1]), deed(3, [1, 2]), deed(3, [2]), deed(3, []), deed(5, [0, 0, 1])]
# [[[0, 1], [1]], [[0, 0, 1], [0, 1, 0, 1], [1]], [[1, 2], [2]], [[2]], [], [[0, 0, 1], [0, 1, 0, 0, 0, 1], [1]]]
[short_put(3, deed(3, [0, 1]), deed(3, [0, 1])), short_sum(3, [[1], [1]], [[1], [2]]), is_short(3, [[1], []]), unlike_place(3, [[0, 1], [1]]), unlike_place(3, [[0, 1], [2]]), unlike_place(3, [])]
# [[[0, 0, 1], [0, 1, 0, 1], [1]], [[2]], False, None, 1, None]
[acted(3, [1, 0, 1], [0, 1], [0, 1]), acted(3, [1, 0, 1], [1, 0, 1], [0, 1]), acted(3, [1, 0, 1], [0, 0, 1], [0, 1])]
# [[2, 2], [0, 1], []]
[monic_product(3, 0), monic_product(3, 1), len(monic_product(3, 2)), monic_multiple(3, 1), len(monic_multiple(3, 2))]
# [[1], [0, 2, 0, 1], 19, [0, 2, 0, 1], 13]
[lower_row(3, 0), lower_row(3, 1), lower_value(3, 1, [0, 0, 1]), lower_value(3, 1, [2]), through(3, [[1], []]), summed(3, [[1], [0, 2]], [0, 0, 1])]
# [[[1]], [[2], [1]], [0, 0, 2, 0, 0, 0, 1], [], [[1], [0, 2]], [0, 0, 0, 0, 2]]
"""

# Promises [15] to [18].
ZEROS = """\
from modulusfields.zeros import own_row, own_value, put_in, row_product, lean_row
t, both = [0, 1], [0, 1, 1]
[own_row(3, t), lean_row(3, t), own_row(3, [0, 0, 1]), own_row(3, both), lean_row(3, both)]
# [[[0, 1], [], [1]], [[0, 1], [1]], [[0, 1], [], [0, 0, 1], [], [0, 2], [], [1]], [[1], [], [2, 1], [], [1]], [[1], [2, 1], [1]]]
[put_in(3, own_row(3, t), [1, 1]), row_product(3, own_row(3, t), own_row(3, both)) == put_in(3, own_row(3, t), [1, 1]), put_in(3, own_row(3, t), t) == own_row(3, [0, 0, 1])]
# [[[0, 1], [], [1, 2, 1], [], [2, 2], [], [1]], True, True]
[own_value(3, t, [1, 0, 1], [0, 1]), own_value(3, t, [1, 0, 1], [1, 1]), own_value(3, t, t, [2]), row_product(5, [[2], [0, 1]], [[3, 1]])]
# [[2, 1], [], [1], [[1, 2], [0, 3, 1]]]
"""

# Promises [19] to [22].
APART = """\
from modulusfields.apart import apart, apart_kind, is_apart, leader, led, row_by, zeros_by
from modulusfields.lots import is_lot_row, lot_rows
[row_by(3, [0, 0, 1], [1, 1]), apart_kind(3, [0, 0, 1], [1, 1]), apart(3, [0, 0, 1], [1, 1])]
# [[[2], [], [1], [], [1], [], [1]], (2, 3, 1), [[[1], [2], [], [1]], [[2], [2], [], [1]]]]
[apart(3, [1, 0, 1], [0, 1]), apart_kind(3, [1, 0, 1], [1, 1]), apart_kind(3, [0, 2, 1], [0, 1]), apart(3, [0, 2, 1], [0, 1]), apart_kind(3, [0, 0, 1], [0, 1]), apart(3, [0, 0, 1], [0, 1])]
# [[[[2], [], [1], [], [1]], [[2], [], [2], [], [1]]], (1, 8, 1), (2, 1, 2), [[[1], [1]], [[2], [1]]], (1, 1, 6), [[[], [1]]]]
[is_apart(3, [0, 0, 1], [1, 1], [[1], [2], [], [1]]), is_apart(3, [0, 0, 1], [1, 1], [[2], [], [1], [], [1], [], [1]]), led(3, [0, 0, 1], [1, 1], [[1], [2], [], [1]], [2]), led(3, [0, 0, 1], [1, 1], [[1], [2], [], [1]], [1, 1]), leader(3, [0, 0, 1], [1, 1], [[1], [2], [], [1]], [[2], [2], [], [1]]), led(3, [0, 0, 1], [1, 0, 1], [[2], [1]], [1, 1])]
# [True, False, [[2], [2], [], [1]], [[1], [2], [], [1]], [2], [[1, 2], [1]]]
[zeros_by(3, [0, 1], [1, 1]), zeros_by(3, [0, 1], [2, 1]), zeros_by(3, [0, 2, 1], [0, 1]), zeros_by(3, [0, 0, 1], [0, 1])]
# [[[1], [2]], [], [[1], [2]], [[]]]
[lot_rows(3, [0, 0, 1], [1, 1], [[1], [1, 1], [1, 2]]) == apart(3, [0, 0, 1], [1, 1]), lot_rows(3, [0, 0, 1], [2, 1], [[1], [1, 1], [1, 2]]), lot_rows(3, [0, 1], [1, 1], [[1], [2]]), is_lot_row(3, [0, 0, 1], [1, 1], [[1]], [[1], [1]])]
# [True, None, [[[2], [], [1]]], False]
"""

# Promises [23] to [28].
MODULES = """\
from modulusfields.modules import answer, answers, bar, common_mark, first_maker, how_many_killed, how_many_marked, is_maker, killed, mark_of, marked, prime_parts
nine, many = [1, 0, 1], [1, 2, 0, 1]
[mark_of(3, nine, [0, 1]), mark_of(3, nine, [1, 1]), mark_of(3, nine, []), [how_many_marked(3, nine, mark) for mark in [[1], [0, 1], [0, 0, 1], [1, 1]]], marked(3, nine, [1, 1]), mark_of(3, many, [0, 1, 1])]
# [[0, 0, 1], [0, 1], [1], [1, 2, 6, 0], None, [0, 2, 1]]
[killed(3, nine, [0, 1]), how_many_killed(3, nine, []), killed(3, many, [1, 1]), how_many_killed(3, many, [0, 0, 1, 1])]
# [[[], [1, 1], [2, 2]], 9, [[], [1, 2, 2], [2, 1, 1]], 9]
[first_maker(3, nine), first_maker(3, many), is_maker(3, many, [0, 1]), is_maker(3, many, [1])]
# [[0, 1], [0, 0, 1], False, True]
[answers(3, nine, [0, 1], [1, 1]), bar(3, nine, [0, 1], [1]), answer(3, nine, [0, 1], [1]), bar(3, nine, [0, 1], [1, 1])]
# [[[0, 2], [1], [2, 1]], [1, 1], None, None]
[prime_parts(3, many, [0, 1]), prime_parts(3, many, [1]), common_mark(3, many, [[1, 1, 2], [0, 1]]), common_mark(3, nine, [])]
# [[([0, 1], [2, 2, 1]), ([1, 1], [1, 2, 2]), ([2, 1], [])], [([0, 1], [1, 1, 2]), ([1, 1], [1, 2, 2]), ([2, 1], [2, 0, 2])], [0, 1, 1], [1]]
"""

# Promises [29] to [34].
RESIDUES = """\
from modulusfields.residues import how_many_with, residue
from modulusfields.turning import is_walk, power_or_bar, root, walk
[residue(3, [1, 0, 1], [0, 1]), residue(3, [1, 0, 1], [1, 1]), residue(5, [0, 1], [3, 4]), residue(5, [0, 0, 1], [3, 4]), residue(7, [0, 1], [0, 3]), residue(7, [1, 1, 1], [3])]
# [1, 2, 3, 4, 0, 2]
[how_many_with(3, [1, 0, 1], 2), how_many_with(5, [0, 0, 1], 4), how_many_with(5, [0, 0, 1], 2), how_many_with(7, [0, 1], 5)]
# [4, 10, 0, 1]
[is_walk(3, [1, 0, 1], [1, 1], [("turn", [1, 1], [1, 0, 1], 1), ("rest", [1, 1], [2], 1), ("lead", [1, 1], [1], 2)]), is_walk(3, [1, 0, 1], [1, 1], []), is_walk(3, [1, 0, 1], [1], []), is_walk(3, [0, 1], [1, 0, 1], [("rest", [0, 1], [1], 1)]), is_walk(3, [0, 1], [], walk(3, [0, 1], []))]
# [True, False, True, True, True]
[root(3, [1, 0, 1], 2, [2]) in [[0, 1], [0, 2]], root(3, [1, 0, 1], 2, [1, 1]), root(5, [0, 1], 4, [1]) in [[1], [2], [3], [4]], root(7, [0, 1], 3, [0, 0, 1])]
# [True, None, True, []]
[power_or_bar(3, 2, [1, 2, 1]), power_or_bar(3, 2, [0, 1]), power_or_bar(3, 2, [2]), power_or_bar(5, 4, []), power_or_bar(7, 3, [0, 0, 0, 6])]
# [('power', [1, 1]), ('bar', [1, 1]), ('bar', [0, 1]), ('power', []), ('power', [0, 3])]
"""

# Promises [35] to [37].
CLASSES = """\
from modulusfields.classcounts import monics_in_classes, weights_in_classes
from modulusfields.classprimes import first_prime, primes_in_class, primes_in_classes, primes_of_order
from modulusfields.rests import free_rests
[free_rests(3, [0, 0, 1]), [monics_in_classes(3, [0, 0, 1], power) for power in range(4)]]
# [[[1], [1, 1], [1, 2], [2], [2, 1], [2, 2]], [[1, 0, 0, 0, 0, 0], [0, 1, 0, 0, 1, 0], [1, 1, 1, 1, 1, 1], [3, 3, 3, 3, 3, 3]]]
[[weights_in_classes(3, [0, 0, 1], power) for power in range(4)], [primes_in_classes(3, [0, 0, 1], power) for power in [1, 2, 3, 4, 5]]]
# [[[0, 0, 0, 0, 0, 0], [0, 1, 0, 0, 1, 0], [2, 1, 1, 0, 2, 2], [4, 3, 6, 4, 3, 6]], [[0, 1, 0, 0, 1, 0], [1, 0, 0, 0, 1, 1], [1, 1, 2, 1, 1, 2], [2, 3, 3, 4, 3, 3], [8, 9, 7, 8, 9, 7]]]
[primes_in_classes(3, [0, 1], 6), primes_in_class(3, [0, 0, 1], 5, [1, 2]), primes_of_order(3, [0, 0, 1], 4, 2), primes_of_order(3, [0, 0, 1], 4, 5), [first_prime(3, [0, 0, 1], rest) for rest in free_rests(3, [0, 0, 1])]]
# [[56, 60], 7, 4, 0, [[1, 0, 1], [1, 1], [1, 2, 0, 1], [2, 0, 1, 1], [2, 1], [2, 2, 1]]]
"""

# Promises [38] to [41].
PLACES = """\
from modulusfields.fieldcounts import class_polynomial, further_points, genus, how_many_places, points
from modulusfields.places import far_places, places_over
one, line, square, wide = [[1]], [0, 1], [0, 0, 1], [1, 0, 1]
[places_over(3, line, one, [1, 1]), places_over(3, line, one, [2, 1]), places_over(3, line, one, [0, 1]), far_places(3, line, one)]
# [(2, 1, 1), (1, 2, 1), (1, 1, 2), (1, 1, 2)]
[places_over(3, square, one, [1, 1]), places_over(3, square, one, [0, 1]), far_places(3, square, one), places_over(3, square, [[1], [2]], [2, 1]), places_over(3, wide, one, [1, 0, 1])]
# [(2, 3, 1), (1, 1, 6), (3, 1, 2), (1, 3, 1), (1, 2, 8)]
[genus(3, line, one), genus(3, square, one), genus(3, wide, one), genus(3, square, [[1], [2]]), genus(5, line, one)]
# [0, 1, 2, 0, 0]
[how_many_places(3, square, one, 1), points(3, wide, one, 1), points(3, wide, one, 2), class_polynomial(3, square, one), class_polynomial(3, wide, one), class_polynomial(3, line, one)]
# [4, 4, 6, [1, 0, 3], [1, 0, -2, 0, 9], [1]]
[further_points(3, wide, one, 2), further_points(3, square, one, 2), further_points(3, line, one, 3)]
# [6, 16, 28]
"""

BLOCKS = [RESTS, DEEDS, ZEROS, APART, MODULES, RESIDUES, CLASSES, PLACES]


class ExamplesTest(unittest.TestCase):
    def test_examples(self):
        for block in BLOCKS:
            names = {}
            got = None
            for line in block.splitlines():
                if line.startswith("# "):
                    # The text tells True from 1 and a tuple from a list.
                    self.assertEqual(repr(got), line[2:])
                elif line.startswith("["):
                    got = eval(line, names)
                else:
                    exec(line, names)

    @unittest.skipUnless(os.path.exists(DOCUMENT), "the document is not here")
    def test_examples_stand_in_the_document(self):
        with open(DOCUMENT, encoding="utf-8") as file:
            lines = file.read().splitlines()
        for block in BLOCKS:
            place = 0
            for line in block.splitlines():
                self.assertIn(line, lines[place:])
                place += lines[place:].index(line) + 1


if __name__ == "__main__":
    unittest.main()
