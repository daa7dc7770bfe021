"""Promises [31] to [34]: residues turned over."""

import time
import unittest

from modulusfields.residues import residue
from modulusfields.turning import is_walk, power_or_bar, root, walk
from tests.support import (
    FOURTH, MODULUS_POWERS, PRIMES, SIXTH, any_values, bad_polynomials, monics, plus, put_by, rest, rests_by, sieved,
    some_moduli, taken, taken_by, times, told_deed,
)
from tests.test_residues import LONG, long_polynomials, product_of

COUNTS = {3: [1, 2], 5: [1, 2, 4], 7: [1, 2, 3, 6]}


def told_walk(p, modulus, polynomial, words):
    """The walk from a modulus and a polynomial with such words, as the document tells it."""
    found, number = [], 1
    for word in words:
        if word == "rest":
            polynomial = rest(p, polynomial, modulus)
        elif word == "lead":
            head = polynomial[-1]
            polynomial = [item * pow(head, -1, p) % p for item in polynomial]
            number = number * head ** (len(modulus) - 1) % p
        else:
            odd = len(modulus) % 2 == 0 and len(polynomial) % 2 == 0
            modulus, polynomial = polynomial, modulus
            number = -number % p if odd else number
        found.append((word, list(modulus), list(polynomial), number))
    return found


class WalkTest(unittest.TestCase):
    def ends(self, p, modulus, polynomial):
        """Check a walk that is told, and return the residue that it tells."""
        found = walk(p, modulus, polynomial)
        self.assertIs(type(found), list)
        self.assertLessEqual(len(found), 4 * (len(modulus) - 1) + 4)
        self.assertTrue(all(type(item) is tuple and len(item) == 4 for item in found))
        self.assertEqual(found, told_walk(p, modulus, polynomial, [item[0] for item in found]))
        last, number = (found[-1][2], found[-1][3]) if found else (polynomial, 1)
        self.assertIn(last, [[], [1]])
        self.assertIs(is_walk(p, modulus, polynomial, found), True)
        return number if last == [1] else 0

    def test_small_moduli(self):
        for p in PRIMES:
            for modulus in some_moduli(p):
                for polynomial in rests_by(p, [0] * 4 + [1])[::13] + [[], [1], [2], modulus, [0] * 60 + [1]]:
                    self.assertEqual(self.ends(p, modulus, polynomial), residue(p, modulus, polynomial))

    def test_moduli_of_the_power_30(self):
        start = time.process_time()
        for p in PRIMES:
            moduli = [product_of(p, primes) for primes in LONG[p]] + [[1] * 31, [0] * 30 + [1], [2, 1] + [0] * 28 + [1]]
            for modulus in moduli:
                more = [modulus, times(p, modulus, [0] * 30 + [2]), modulus[:-1] + [2]]
                for polynomial in long_polynomials(p) + more:
                    self.assertEqual(self.ends(p, modulus, polynomial), residue(p, modulus, polynomial))
        self.assertLess(time.process_time() - start, 20)

    def test_length_where_each_power_falls_by_one(self):
        # Each one made of the two ahead of it, so the walk goes through all of the powers.
        for p in PRIMES:
            ahead, now = [1], [1, 1]
            while len(now) < 31:
                ahead, now = now, plus(p, times(p, now, [2, 1]), times(p, ahead, [2]))
            self.assertEqual((len(now), now[-1]), (31, 1))
            self.ends(p, now, ahead)
            self.ends(p, now, times(p, now, [1, 1])[:-1] + [2])


class IsWalkTest(unittest.TestCase):
    def test_walks_without_tuples(self):
        for p in PRIMES:
            self.assertIs(is_walk(p, [0, 1], [], []), True)
            self.assertIs(is_walk(p, [0, 1], [1], []), True)
            for one in [[2], [0, 1], [1, 1], [0] * 60 + [1]]:
                self.assertIs(is_walk(p, [0, 1], one, []), False)

    def test_useless_words(self):
        start = time.process_time()
        for p in PRIMES:
            for modulus, one in [([1, 0, 1], [1, 1]), ([1, 1, 0, 1], [2, 0, 2, 1, 1])]:
                tail = ["rest", "lead"] * 2
                for words in [["turn", "turn"], ["rest"] * 3, ["rest", "lead", "lead"], ["rest"] * 2000]:
                    told = told_walk(p, modulus, one, words)
                    more = walk(p, told[-1][1], told[-1][2])
                    words = words + [item[0] for item in more]
                    told = told_walk(p, modulus, one, words)
                    self.assertIs(is_walk(p, modulus, one, told), True)
                    number = told[-1][3] if told[-1][2] == [1] else 0
                    self.assertEqual(number, residue(p, modulus, one))
                    if told[-1][2] == [1]:
                        self.assertIs(is_walk(p, modulus, one, told_walk(p, modulus, one, words + tail)), True)
            # Behind turns both ways all is as it was.
            modulus, one = [1] * 31, [2] + [0] * 59 + [1]
            words = ["turn", "turn"] * 1000 + [item[0] for item in walk(p, modulus, one)]
            self.assertIs(is_walk(p, modulus, one, told_walk(p, modulus, one, words)), True)
        self.assertLess(time.process_time() - start, 20)

    def test_walks_that_do_not_end(self):
        for p in PRIMES:
            for modulus, one in [([1, 1, 0, 1], [2, 0, 2, 1, 1]), (SIXTH[p], [1, 1, 2]), ([1] * 31, [0] * 60 + [1])]:
                found = walk(p, modulus, one)
                for many in range(len(found)):
                    ended = found[many - 1][2] in [[], [1]] if many else one in [[], [1]]
                    self.assertIs(is_walk(p, modulus, one, found[:many]), ended)

    def test_words_that_cannot_stand(self):
        # Nought has no last number; what is not monic, and what is a number, is not exchanged.
        self.assertIs(is_walk(3, [0, 1], [], [("lead", [0, 1], [], 1)]), False)
        self.assertIs(is_walk(3, [0, 1], [], [("rest", [0, 1], [], 1)]), True)
        self.assertIs(is_walk(3, [0, 1], [], [("turn", [], [0, 1], 1), ("rest", [], [], 1)]), False)
        self.assertIs(is_walk(3, [0, 1], [1], [("lead", [0, 1], [1], 1)]), True)
        self.assertIs(is_walk(3, [0, 1], [1], [("turn", [1], [0, 1], 1), ("rest", [1], [], 1)]), False)
        self.assertIs(is_walk(3, [0, 1], [0, 2], [("turn", [0, 2], [0, 1], 2), ("rest", [0, 2], [], 2)]), False)
        self.assertIs(is_walk(3, [0, 1], [0, 0, 1], [("turn", [0, 0, 1], [0, 1], 1)]), False)
        self.assertIs(is_walk(3, [0, 1], [0, 1], [("turn", [0, 1], [0, 1], 2), ("rest", [0, 1], [], 2)]), True)

    def test_one_thing_exchanged(self):
        for p in PRIMES:
            for modulus, one in [([1, 0, 1], [1, 1]), ([1, 1, 0, 1], [2, 0, 2, 1, 1]), (FOURTH[p], [1, 2, 0, 2])]:
                found = walk(p, modulus, one)
                for place, item in enumerate(found):
                    word, ahead, behind, number = item
                    words = ["rest", "lead", "turn", "", "REST", "rest ", "walk", None, 1, ["rest"], ("rest",)]
                    others = [(other, ahead, behind, number) for other in words if other != word]
                    others += [(word, ahead, behind, other) for other in any_values() + list(range(-p, 2 * p + 1))
                               if isinstance(other, bool) or other != number]
                    wrong = any_values() + bad_polynomials(p) + [[], [1], [2, 1], [0] * 61 + [1], ahead + [0]]
                    others += [(word, other, behind, number) for other in wrong if other != ahead]
                    others += [(word, ahead, other, number) for other in wrong if other != behind]
                    others += [list(item), item[:3], item + (1,), (item,), [item], word, number, (), None, True]
                    others += [(word, tuple(ahead), behind, number), (word, ahead, tuple(behind), number)]
                    for other in others:
                        value = found[:place] + [other] + found[place + 1:]
                        self.assertIs(is_walk(p, modulus, one, value), told_as_words(p, modulus, one, value), value)

    def test_word_that_would_do_the_same(self):
        # A polynomial that is its own rest, and monic, too: both words leave it.
        self.assertIs(is_walk(5, [0, 1], [1], [("rest", [0, 1], [1], 1)]), True)
        self.assertIs(is_walk(5, [0, 1], [1], [("lead", [0, 1], [1], 1)]), True)
        self.assertIs(is_walk(5, [0, 1], [1], [("turn", [0, 1], [1], 1)]), False)

    def test_booleans_are_no_numbers(self):
        self.assertIs(is_walk(3, [1, 0, 1], [1], [("rest", [1, 0, 1], [1], True)]), False)
        self.assertIs(is_walk(3, [1, 0, 1], [1], [("rest", [1, 0, 1], [True], 1)]), False)
        self.assertIs(is_walk(3, [1, 0, 1], [1], [("rest", [True, 0, 1], [1], 1)]), False)
        self.assertIs(is_walk(3, [1, 0, 1], [1], [("rest", [1, False, 1], [1], 1)]), False)
        self.assertIs(is_walk(3, [1, 0, 1], [1], [("rest", [1, 0, 1], [1], 1)]), True)

    def test_any_value(self):
        tuples = (("rest", [0, 1], [1], 1),)
        for value in any_values() + [tuples, tuples[0], [list(tuples[0])], {0: tuples[0]}, "rest", ["rest"], [tuples]]:
            self.assertIs(is_walk(3, [0, 1], [1], value), False, value)

    def test_a_walk_from_another_start(self):
        found = walk(3, [1, 0, 1], [1, 1])
        self.assertIs(is_walk(3, [1, 0, 1], [1, 1], found), True)
        self.assertIs(is_walk(3, [1, 0, 1], [2, 1], found), False)
        self.assertIs(is_walk(3, [2, 1, 1], [1, 1], found), False)


def told_as_words(p, modulus, one, value):
    """Whether a value is a walk that ends: its words, if they can stand, tell all of it."""
    if not all(isinstance(item, tuple) and item and item[0] in ("rest", "lead", "turn") for item in value):
        return False
    here = (modulus, one)
    for item in value:
        if item[0] == "lead" and here[1] == [] or item[0] == "turn" and (len(here[1]) < 2 or here[1][-1] != 1):
            return False
        here = told_walk(p, *here, [item[0]])[0][1:3]
    told = told_walk(p, modulus, one, [item[0] for item in value])
    return repr(told) == repr(value) and here[1] in ([], [1])


class RootTest(unittest.TestCase):
    def test_all_rests_by_small_primes(self):
        for p in PRIMES:
            for prime in [[0, 1], [2, 1]] + sieved(p, 2)[:3] + (sieved(3, 3)[:3] + [FOURTH[3]] if p == 3 else []):
                rests = rests_by(p, prime)
                for count in COUNTS[p]:
                    powers = {}
                    for one in rests:
                        powers.setdefault(tuple(taken_by(p, prime, one, count)), []).append(one)
                    for one in rests:
                        found = root(p, prime, count, one)
                        if tuple(one) in powers:
                            self.assertIn(found, powers[tuple(one)])
                        else:
                            self.assertIsNone(found)
                        told = residue(p, prime, one)
                        self.assertEqual(found is not None, told == 0 or told ** ((p - 1) // count) % p == 1)

    def test_great_polynomials(self):
        for p in PRIMES:
            for prime in [[1, 1], sieved(p, 2)[1], SIXTH[p]]:
                for count in COUNTS[p]:
                    for one in long_polynomials(p):
                        found, wanted = root(p, prime, count, one), rest(p, one, prime)
                        told = residue(p, prime, one)
                        self.assertEqual(found is not None, told == 0 or told ** ((p - 1) // count) % p == 1)
                        if found is not None:
                            self.assertLess(len(found), len(prime))
                            self.assertEqual(taken_by(p, prime, found, count) if found else [], wanted)

    def test_multiples_of_the_prime(self):
        for p in PRIMES:
            for prime in [[0, 1], FOURTH[p], SIXTH[p]]:
                for count in COUNTS[p]:
                    self.assertEqual(root(p, prime, count, []), [])
                    self.assertEqual(root(p, prime, count, times(p, prime, [2, 0, 1])), [])

    def test_count_of_one(self):
        for p in PRIMES:
            for one in long_polynomials(p):
                self.assertEqual(root(p, SIXTH[p], 1, one), rest(p, one, SIXTH[p]))

    def test_primes_of_the_power_6(self):
        start = time.process_time()
        for p in PRIMES:
            for prime in [SIXTH[p], {3: [1, 0, 0, 0, 2, 0, 1], 5: [1, 0, 1, 1, 3, 4, 1], 7: [1, 0, 1, 2, 5, 5, 1]}[p]]:
                for count in COUNTS[p]:
                    for one in [[2], [0, 1], [1, 1], [2, 1, 0, 1], [1, 1, 1, 1, 1, 1], [0, 0, 0, 2, 0, 2]]:
                        power = taken_by(p, prime, one, count)
                        self.assertEqual(taken_by(p, prime, root(p, prime, count, power), count), power)
        self.assertLess(time.process_time() - start, 20)


class PowerOrBarTest(unittest.TestCase):
    def test_powers(self):
        for p in PRIMES:
            for count in COUNTS[p]:
                for one in rests_by(p, [0] * (6 // count if p ** (6 // count) < 400 else 2) + [1])[::3]:
                    power = taken(p, one, count) if one else []
                    word, found = told = power_or_bar(p, count, power)
                    self.assertIs(type(told), tuple)
                    self.assertEqual(word, "power")
                    self.assertEqual(taken(p, found, count) if found else [], power)
                    # The others are its multiples by numbers, and stand behind it.
                    for number in range(2, p):
                        other = times(p, found, [number]) if found else []
                        if found and taken(p, other, count) == power:
                            self.assertLess(found, other)

    def test_all_of_low_powers(self):
        for p, power in [(3, 4), (5, 2), (7, 2)]:
            polynomials = rests_by(p, [0] * (power + 1) + [1])
            for count in COUNTS[p]:
                powers = {}
                for one in rests_by(p, [0] * (power // count + 1) + [1]):
                    powers.setdefault(tuple(taken(p, one, count) if one else []), []).append(one)
                for one in polynomials[:: 1 if p < 7 else 2]:
                    told = power_or_bar(p, count, one)
                    if tuple(one) in powers:
                        self.assertEqual(told, ("power", min(powers[tuple(one)])))
                    else:
                        self.assertEqual(told, ("bar", self.first_bar(p, count, one)))

    def first_bar(self, p, count, one):
        """The first prime by which no rest is a root."""
        for power in range(1, 7):
            for prime in sieved(p, power):
                wanted = rest(p, one, prime)
                rests = [told for told in rests_by(p, prime) if told]
                if wanted and all(taken_by(p, prime, told, count) != wanted for told in rests):
                    return prime
        raise AssertionError

    def test_limit_of_the_power_6(self):
        start = time.process_time()
        for p in PRIMES:
            for count in COUNTS[p]:
                linear = [1]
                for number in range(min(p, 6)):
                    linear = times(p, linear, [number, 1])
                for one in [SIXTH[p], linear, [2] + [0] * 5 + [1], [0] * 6 + [2], [1] * 7, [0, 0, 0, 1, 0, 0, 1]]:
                    word, found = power_or_bar(p, count, one)
                    if word == "bar":
                        self.assertLessEqual(len(found), 7)
                        self.assertIsNone(root(p, found, count, one))
                        for power in range(1, len(found)):
                            for prime in sieved(p, power):
                                if power < len(found) - 1 or prime < found:
                                    self.assertIsNotNone(root(p, prime, count, one))
                    else:
                        self.assertEqual(taken(p, found, count), one)
        self.assertLess(time.process_time() - start, 20)

    def test_told_by_hand(self):
        self.assertEqual(power_or_bar(3, 2, [1]), ("power", [1]))
        self.assertEqual(power_or_bar(5, 2, [4]), ("power", [2]))
        self.assertEqual(power_or_bar(5, 4, [4]), ("bar", [0, 1]))
        self.assertEqual(power_or_bar(7, 6, [1]), ("power", [1]))
        self.assertEqual(power_or_bar(7, 2, [0, 0, 4]), ("power", [0, 2]))
        # By T this is 0; by T + 1 it is 2, which is no square.
        self.assertEqual(power_or_bar(3, 2, [0, 0, 0, 1]), ("bar", [1, 1]))
        for p in PRIMES:
            self.assertEqual(power_or_bar(p, 1, [2, 0, 1]), ("power", [2, 0, 1]))
            for count in COUNTS[p]:
                self.assertEqual(power_or_bar(p, count, []), ("power", []))


class ZerosTest(unittest.TestCase):
    def test_residues_come_out_of_zeros(self):
        tried = 0
        for p, prime, power in [
            (3, [0, 1], 1), (3, [0, 1], 2), (3, [0, 1], 3), (3, [2, 1], 2), (3, [1, 0, 1], 3), (3, [2, 1, 1], 3),
            (3, [1, 0, 1], 4), (5, [0, 1], 1), (5, [0, 1], 2), (5, [3, 1], 2), (7, [0, 1], 1), (7, [2, 1], 2),
        ]:
            self.assertLessEqual(len(prime) - 1, MODULUS_POWERS[p])
            for other in [one for one in sieved(p, power) if rest(p, one, prime) == [1]][:2]:
                tried += 1
                zeros = [one for one in rests_by(p, other) if one and put_by(p, other, told_deed(p, prime), one) == []]
                self.assertEqual(len(zeros), p ** (len(prime) - 1) - 1)
                # Of the multiples of each one the last in order is chosen.
                chosen = sorted({max(tuple(times(p, one, [c])) for c in range(1, p)) for one in zeros})
                self.assertEqual(len(chosen) * (p - 1), len(zeros))
                whole = self.product(p, other, [list(one) for one in chosen])
                for one in [[2], [1, 1], [0, 1], [1, 2], [2, 0, 1], [1, 1, 1]]:
                    if rest(p, one, prime) != []:
                        there = self.product(p, other, [put_by(p, other, told_deed(p, one), list(x)) for x in chosen])
                        number = residue(p, prime, one)
                        self.assertEqual(there, [item * number % p for item in whole])
                ends = prime if len(prime) % 2 == 1 else [-item % p for item in prime]
                self.assertEqual(taken_by(p, other, whole, p - 1), rest(p, ends, other))
        self.assertGreater(tried, 12)

    def product(self, p, prime, some):
        result = [1]
        for one in some:
            result = rest(p, times(p, result, one), prime)
        return result


class MonicsTest(unittest.TestCase):
    def test_walks_turn_over_all_monic_polynomials(self):
        for p, power in [(3, 3), (5, 2), (7, 2)]:
            for modulus in monics(p, power)[::4]:
                for one in monics(p, power - 1):
                    told = walk(p, modulus, one)
                    number = told[-1][3] if told and told[-1][2] == [1] else 1 if one == [1] else 0
                    self.assertEqual(number, residue(p, modulus, one))


if __name__ == "__main__":
    unittest.main()
