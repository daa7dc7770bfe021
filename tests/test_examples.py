"""The examples of the document, word for word."""

import os
import unittest

DOCUMENT = os.path.join(os.path.dirname(__file__), "..", "..", "shared", "DOC.md")

# Promises [6] to [8].
RESTS = """\
from modulusfields.primes import factors, is_modulus, is_prime, primes_of
from modulusfields.rests import cosets, free_rests, generated, how_many_free, is_group, order_of, rest_of, rest_opposite, rest_product
[is_modulus(3, [0, 1]), is_modulus(3, [1, 2]), is_modulus(7, [0, 0, 0, 1]), is_prime(3, [1, 0, 1]), is_prime(5, [1, 0, 1]), primes_of(3, 2), factors(3, [0, 0, 2, 1])]
# [True, False, False, True, False, [[1, 0, 1], [2, 1, 1], [2, 2, 1]], [([0, 1], 2), ([2, 1], 1)]]
[rest_of(3, [1, 0, 1], [0, 0, 0, 1]), how_many_free(3, [0, 0, 1]), free_rests(3, [0, 0, 1]), rest_product(3, [1, 0, 1], [0, 1], [1, 1]), rest_opposite(3, [1, 0, 1], [0, 1])]
# [[0, 2], 6, [[1], [1, 1], [1, 2], [2], [2, 1], [2, 2]], [2, 1], [0, 2]]
[order_of(3, [1, 0, 1], [0, 1]), order_of(3, [1, 0, 1], [1, 1]), generated(3, [1, 0, 1], [[0, 1]]), is_group(3, [1, 0, 1], [[1], [2]]), is_group(3, [1, 0, 1], [[2], [1]])]
# [4, 8, [[0, 1], [0, 2], [1], [2]], True, False]
[cosets(3, [0, 0, 1], [[1], [2]]), cosets(3, [0, 1], [[1], [2]]), generated(3, [0, 0, 1], [])]
# [[[[1], [2]], [[1, 1], [2, 2]], [[1, 2], [2, 1]]], [[[1], [2]]], [[1]]]
"""

BLOCKS = [RESTS]


class ExamplesTest(unittest.TestCase):
    def test_examples(self):
        for block in BLOCKS:
            names = {}
            got = None
            for line in block.splitlines():
                if line.startswith("# "):
                    # The text tells True from 1 and a tuple from a list.
                    self.assertEqual(repr(got), line[2:])
                elif line.startswith("["):
                    got = eval(line, names)
                else:
                    exec(line, names)

    @unittest.skipUnless(os.path.exists(DOCUMENT), "the document is not here")
    def test_examples_stand_in_the_document(self):
        with open(DOCUMENT, encoding="utf-8") as file:
            text = file.read()
        for block in BLOCKS:
            self.assertIn("```\n" + block + "```\n", text)


if __name__ == "__main__":
    unittest.main()
