"""Promises [23] to [28]: rests by a prime under deeds."""

import time
import unittest
from itertools import product

from modulusfields.deeds import acted
from modulusfields.errors import TooMany
from modulusfields.modules import (
    answer, answers, bar, common_mark, first_maker, how_many_killed, how_many_marked, is_maker, killed, mark_of, marked,
    prime_parts,
)
from tests.support import (
    FOURTH, PRIMES, SIXTH, cut, free_by, minus, monic_divisors, monics, plus, put_by, quotient, rest, rests_by, sieved,
    taken, times, told_deed,
)

# Small primes: the prime less 1 is a prime, has one several times, or has several.
SMALL = [
    (3, [0, 1]), (3, [1, 1]), (3, [2, 1]), (3, [1, 0, 1]), (3, [2, 1, 1]), (3, [2, 2, 1]), (3, [1, 2, 0, 1]),
    (3, [2, 2, 0, 1]), (3, [1, 0, 2, 1]), (3, [2, 0, 0, 1, 1]), (5, [0, 1]), (5, [1, 1]), (5, [4, 1]), (5, [2, 0, 1]),
    (5, [1, 1, 1]), (7, [0, 1]), (7, [1, 1]), (7, [1, 0, 1]), (7, [3, 1, 1]),
]
# Primes of the power 6: the prime less 1 has many primes, or one many times, or first makers stand far behind.
SIXTHS = [
    (3, [1, 0, 0, 0, 2, 0, 1]), (3, [1, 0, 2, 0, 0, 0, 1]), (3, [1, 1, 0, 2, 1, 1, 1]), (5, [1, 0, 1, 1, 3, 4, 1]),
    (5, [1, 0, 0, 1, 0, 3, 1]), (7, [1, 0, 1, 2, 5, 5, 1]), (7, [3, 2, 3, 4, 0, 0, 1]), (3, SIXTH[3]), (5, SIXTH[5]),
    (7, SIXTH[7]),
]


def whole(p, prime):
    """The prime less 1."""
    return minus(p, prime, [1])


def led_by(p, prime, polynomial, one):
    """What a polynomial leads a rest to: the sum of its numbers times what T does to it so many times."""
    result, reached = [], one
    for number in polynomial:
        result = plus(p, result, rest(p, times(p, [number], reached) if number else [], prime))
        reached = rest(p, plus(p, times(p, [0, 1], reached), taken(p, reached, p)), prime)
    return result


def polynomials(p, power):
    """All polynomials up to a power, nought among them."""
    return rests_by(p, [0] * (power + 1) + [1])


def by_words(p, prime):
    """For each rest the tuple of all that it is led to by polynomials of lower power than the prime."""
    return {tuple(one): [led_by(p, prime, told, one) for told in polynomials(p, len(prime) - 2)]
            for one in rests_by(p, prime)}


def mark_by_words(p, prime, one):
    """The first monic polynomial, by powers, that leads a rest to nought."""
    for power in range(len(prime)):
        for told in monics(p, power):
            if led_by(p, prime, told, one) == []:
                return told
    raise AssertionError


def common(p, one, other):
    """The greatest monic common factor of two polynomials, the first one monic: tried from above."""
    return max((told for told in monic_divisors(p, one) if rest(p, other, told) == []), key=len)


class LedTest(unittest.TestCase):
    def test_what_leads_is_the_deed(self):
        for p, prime in SMALL:
            if len(prime) < 5:
                for told in polynomials(p, 2)[::p - 2]:
                    for one in rests_by(p, prime)[::5]:
                        there = led_by(p, prime, told, one)
                        self.assertEqual(there, acted(p, prime, told, one))
                        self.assertEqual(there, put_by(p, prime, told_deed(p, told), one))


class MarkTest(unittest.TestCase):
    def test_all_rests_by_small_primes(self):
        for p, prime in SMALL:
            counts = {}
            for one in rests_by(p, prime):
                mark = mark_of(p, prime, one)
                self.assertEqual(mark, mark_by_words(p, prime, one), (p, prime, one))
                self.assertEqual(rest(p, whole(p, prime), mark), [])
                counts[tuple(mark)] = counts.get(tuple(mark), 0) + 1
            for power in range(len(prime) + 1):
                for mark in monics(p, power)[:100]:
                    self.assertEqual(how_many_marked(p, prime, mark), counts.get(tuple(mark), 0), (p, prime, mark))

    def test_how_many_as_free_rests(self):
        for p, prime in SMALL:
            for mark in monic_divisors(p, whole(p, prime)):
                many = 1 if mark == [1] else len(free_by(p, mark))
                self.assertEqual(how_many_marked(p, prime, mark), many)
            self.assertEqual(how_many_marked(p, prime, [0] * 60 + [1]), 0)
            self.assertEqual(how_many_marked(p, prime, [1] * 61), 0)
            self.assertEqual(how_many_marked(p, prime, prime), 0)

    def test_just_multiples_of_the_mark_lead_to_nought(self):
        for p, prime in [(3, [1, 0, 1]), (3, [1, 2, 0, 1]), (5, [2, 0, 1]), (7, [3, 1])]:
            for one in rests_by(p, prime):
                mark = mark_of(p, prime, one)
                for told in polynomials(p, 3)[:200]:
                    self.assertEqual(led_by(p, prime, told, one) == [], rest(p, told, mark) == [])

    def test_nought(self):
        for p, prime in SMALL + SIXTHS:
            self.assertEqual(mark_of(p, prime, []), [1])
            self.assertEqual(how_many_marked(p, prime, [1]), 1)
            self.assertEqual(marked(p, prime, [1]), [])

    def test_marked(self):
        for p, prime in SMALL + SIXTHS:
            divisors = monic_divisors(p, whole(p, prime)) if p ** len(prime) < 3000 else [[1], whole(p, prime)]
            for mark in divisors:
                one = marked(p, prime, mark)
                self.assertLess(len(one), len(prime))
                self.assertEqual(mark_of(p, prime, one), mark)
        for p, prime in SMALL:
            for power in range(len(prime) + 1):
                for mark in monics(p, power)[:60]:
                    if rest(p, whole(p, prime), mark) != []:
                        self.assertIsNone(marked(p, prime, mark))
            self.assertIsNone(marked(p, prime, [0] * 60 + [1]))

    def test_primes_of_the_power_6(self):
        for p, prime in SIXTHS:
            start = time.process_time()
            for one in [[1], [0, 1], [2, 1, 0, 1], [0, 0, 0, 0, 0, 1], [1] * 6]:
                mark = mark_of(p, prime, one)
                self.assertEqual(mark[-1], 1)
                self.assertEqual(led_by(p, prime, mark, one), [])
                self.assertEqual(rest(p, whole(p, prime), mark), [])
                for low in range(1, len(mark)):
                    for told in [told for told in monics(p, low) if low < 4 and rest(p, mark, told) == []]:
                        self.assertNotEqual(led_by(p, prime, quotient(p, mark, told), one), [])
            self.assertLess(time.process_time() - start, 10)


class KilledTest(unittest.TestCase):
    def test_all_polynomials_by_small_primes(self):
        for p, prime in SMALL:
            for told in polynomials(p, len(prime) - 1)[:150]:
                one = [one for one in rests_by(p, prime) if led_by(p, prime, told, one) == []]
                self.assertEqual(killed(p, prime, told), one, (p, prime, told))
                self.assertEqual(how_many_killed(p, prime, told), len(one))
                self.assertEqual(len(one), p ** (len(common(p, whole(p, prime), told)) - 1))

    def test_nought_numbers_and_great_powers(self):
        for p, prime in SMALL:
            self.assertEqual(killed(p, prime, []), rests_by(p, prime))
            self.assertEqual(how_many_killed(p, prime, []), p ** (len(prime) - 1))
            self.assertEqual(killed(p, prime, [p - 1]), [[]])
            self.assertEqual(how_many_killed(p, prime, [2]), 1)
            great = times(p, whole(p, prime), [0] * (61 - len(prime)) + [1])
            self.assertEqual(len(great), 61)
            self.assertEqual(killed(p, prime, great), rests_by(p, prime))
            other = plus(p, great, [2])
            self.assertEqual(killed(p, prime, other), [[]])

    def test_too_many(self):
        for p, prime in SIXTHS:
            for power in range(7):
                for told in [one for one in monics(p, power)[:400] if rest(p, whole(p, prime), one) == []][:2]:
                    self.assertEqual(how_many_killed(p, prime, told), p ** power)
                    self.too_many_above(1000, p ** power, killed, (p, prime, told))
                    self.too_many_above(1000, p ** power, answers, (p, prime, told, []))
            self.assertEqual(how_many_killed(p, prime, []), p ** 6)
            self.too_many_above(1000, p ** 6, killed, (p, prime, []))

    def test_bound_of_too_many(self):
        self.assertEqual(killed(3, SIXTH[3], []), rests_by(3, SIXTH[3]))
        self.assertEqual(killed(5, FOURTH[5], []), rests_by(5, FOURTH[5]))
        self.assertEqual(killed(7, sieved(7, 3)[0], []), rests_by(7, sieved(7, 3)[0]))
        self.too_many_above(1000, 3125, killed, (5, [1, 4, 0, 0, 0, 1], []))
        self.too_many_above(1000, 2401, killed, (7, FOURTH[7], []))

    def too_many_above(self, most, many, function, arguments):
        if many > most:
            with self.assertRaises(TooMany) as caught:
                function(*arguments)
            self.assertEqual(caught.exception.value, many)
        else:
            found = function(*arguments)
            self.assertEqual(len(found), many)
            self.assertEqual(found, sorted(found))


class MakerTest(unittest.TestCase):
    def test_all_rests_by_small_primes(self):
        for p, prime in SMALL:
            makers = []
            for one, there in by_words(p, prime).items():
                # A maker is led to each rest by just one of these polynomials.
                if sorted(there) == rests_by(p, prime):
                    makers.append(list(one))
            for one in rests_by(p, prime):
                self.assertIs(is_maker(p, prime, one), one in makers)
            self.assertEqual(first_maker(p, prime), min(makers))
            self.assertEqual(len(makers), how_many_marked(p, prime, whole(p, prime)))

    def test_primes_of_the_power_6(self):
        for p, prime in SIXTHS:
            start = time.process_time()
            first = first_maker(p, prime)
            self.assertIs(is_maker(p, prime, first), True)
            self.assertIs(is_maker(p, prime, []), False)
            # All that stand ahead of it begin like these, in order.
            for one in rests_ahead(p, first, 300):
                self.assertIs(is_maker(p, prime, one), False)
            self.assertLess(time.process_time() - start, 10)

    def test_first_one_stands_behind_many_others(self):
        # Here no rest without a number at the first place is a maker.
        told = 0
        for p, power in [(3, 4), (5, 3), (7, 3)]:
            for prime in sieved(p, power):
                first = first_maker(p, prime)
                if first[0] != 0:
                    told += 1
                    for one in rests_by(p, prime):
                        if one < first:
                            self.assertIs(is_maker(p, prime, one), False)
        self.assertGreater(told, 3)


def rests_ahead(p, one, most):
    """Some rests, the last ones ahead of a rest in order."""
    numbers = one + [0] * (6 - len(one))
    value = 0
    for number in numbers:
        value = value * p + number
    found = []
    for ahead in range(max(0, value - most), value):
        digits = []
        for _ in numbers:
            ahead, digit = divmod(ahead, p)
            digits.insert(0, digit)
        found.append(cut(digits, 0))
    return found


class AnswersTest(unittest.TestCase):
    def test_all_by_small_primes(self):
        for p, prime in SMALL:
            rests = rests_by(p, prime)
            for told in polynomials(p, len(prime) - 1)[:: 1 if len(prime) < 4 else 7][:50]:
                there = {tuple(one): led_by(p, prime, told, one) for one in rests}
                part = quotient(p, whole(p, prime), common(p, whole(p, prime), told))
                for wanted in rests:
                    found = [one for one in rests if there[tuple(one)] == wanted]
                    self.assertEqual(answers(p, prime, told, wanted), found, (p, prime, told, wanted))
                    barred = led_by(p, prime, part, wanted)
                    if found:
                        self.assertIn(answer(p, prime, told, wanted), found)
                        self.assertIsNone(bar(p, prime, told, wanted))
                        self.assertEqual(barred, [])
                    else:
                        self.assertIsNone(answer(p, prime, told, wanted))
                        self.assertEqual(bar(p, prime, told, wanted), barred)
                        self.assertNotEqual(barred, [])

    def test_nought(self):
        for p, prime in SMALL:
            self.assertEqual(answers(p, prime, [], []), rests_by(p, prime))
            self.assertEqual(answers(p, prime, [], [1]), [])
            self.assertIsNone(answer(p, prime, [], [p - 1]))
            self.assertEqual(bar(p, prime, [], [p - 1]), [p - 1])
            self.assertIsNone(bar(p, prime, [], []))

    def test_numbers(self):
        for p, prime in SMALL + SIXTHS:
            one = rest(p, [1, 2, 1, 1, 2], prime)
            self.assertEqual(answers(p, prime, [2], one), [times(p, [pow(2, -1, p)], one)])
            self.assertEqual(answer(p, prime, [1], one), one)
            self.assertIsNone(bar(p, prime, [2], one))

    def test_too_many_just_where_there_are_answers(self):
        for p, prime in [(5, SIXTH[5]), (7, SIXTH[7])]:
            with self.assertRaises(TooMany) as caught:
                answers(p, prime, [], [])
            self.assertEqual(caught.exception.value, p ** 6)
            self.assertEqual(answers(p, prime, [], [1]), [])
            self.assertEqual(rest(p, [], prime), answer(p, prime, [1], []))
            self.assertEqual(led_by(p, prime, [], answer(p, prime, [], [])), [])

    def test_primes_of_the_power_6(self):
        for p, prime in SIXTHS:
            start = time.process_time()
            for told in [[0, 1], [1, 1], [0, 2, 0, 1], [1] * 7, [2] + [0] * 59 + [1], whole(p, prime)]:
                for wanted in [[1], [0, 1, 0, 0, 2], led_by(p, prime, told, [1, 2, 0, 1])]:
                    found, barred = answer(p, prime, told, wanted), bar(p, prime, told, wanted)
                    self.assertEqual(found is None, barred is not None)
                    if found is not None:
                        self.assertEqual(led_by(p, prime, told, found), wanted)
                    if how_many_killed(p, prime, told) <= 1000:
                        listed = answers(p, prime, told, wanted)
                        self.assertEqual(len(listed), 0 if found is None else how_many_killed(p, prime, told))
                        self.assertEqual(listed, sorted(listed))
                        self.assertTrue(all(led_by(p, prime, told, one) == wanted for one in listed[:20]))
            self.assertLess(time.process_time() - start, 10)


class PartsTest(unittest.TestCase):
    def prime_powers(self, p, prime):
        """The primes of the prime less 1, each with how many times it stands there."""
        found = []
        for power in range(1, len(prime)):
            for one in sieved(p, power) if power < 4 else []:
                count = 0
                while rest(p, whole(p, prime), taken(p, one, count + 1)) == []:
                    count += 1
                if count:
                    found.append((one, count))
        if sum((len(one) - 1) * count for one, count in found) < len(prime) - 1:
            left = whole(p, prime)
            for one, count in found:
                left = quotient(p, left, taken(p, one, count))
            found.append((left, 1))
        return sorted(found)

    def test_sums_and_marks(self):
        for p, prime in SMALL + SIXTHS:
            powers = self.prime_powers(p, prime)
            for one in rests_by(p, prime)[:81] if len(prime) < 7 else [[], [1], [0, 1], [1, 2, 0, 1, 1, 2]]:
                parts = prime_parts(p, prime, one)
                self.assertEqual([part[0] for part in parts], [told for told, _ in powers])
                total = []
                for part, (told, count) in zip(parts, powers):
                    self.assertIs(type(part), tuple)
                    total = plus(p, total, part[1])
                    self.assertEqual(led_by(p, prime, taken(p, told, count), part[1]), [])
                self.assertEqual(total, one)

    def test_just_one_way(self):
        for p, prime in [(3, [1, 0, 1]), (3, [1, 2, 0, 1]), (3, [2, 2, 1]), (5, [1, 1, 1])]:
            powers = self.prime_powers(p, prime)
            kinds = [
                [one for one in rests_by(p, prime) if led_by(p, prime, taken(p, told, count), one) == []]
                for told, count in powers
            ]
            seen = {}
            for parts in product(*kinds):
                total = []
                for part in parts:
                    total = plus(p, total, part)
                self.assertNotIn(tuple(total), seen)
                seen[tuple(total)] = [(told, part) for (told, _), part in zip(powers, parts)]
            for one in rests_by(p, prime):
                self.assertEqual(prime_parts(p, prime, one), seen[tuple(one)])


class CommonMarkTest(unittest.TestCase):
    def test_first_that_leads_all_to_nought(self):
        for p, prime in SMALL:
            rests = rests_by(p, prime)
            for start in range(0, len(rests), 3):
                for some in [rests[start:start + 1], rests[start:start + 2], rests[start::9], rests[:start]]:
                    mark = common_mark(p, prime, some)
                    divisors = [one for one in monic_divisors(p, whole(p, prime))
                                if all(led_by(p, prime, one, item) == [] for item in some[:40])]
                    self.assertEqual(mark, min(divisors, key=len))
                    for item in some:
                        self.assertEqual(rest(p, mark, mark_of(p, prime, item)), [])

    def test_none_and_nought(self):
        for p, prime in SMALL + SIXTHS:
            self.assertEqual(common_mark(p, prime, []), [1])
            self.assertEqual(common_mark(p, prime, [[], []]), [1])
            self.assertEqual(common_mark(p, prime, [first_maker(p, prime), []]), whole(p, prime))
            self.assertEqual(common_mark(p, prime, [[1]]), mark_of(p, prime, [1]))

    def test_what_comes_of_the_items_is_what_the_mark_leads_to_nought(self):
        for p, prime in [(3, [1, 0, 1]), (3, [1, 2, 0, 1]), (5, [2, 0, 1]), (7, [3, 1, 1])]:
            rests = rests_by(p, prime)
            there = by_words(p, prime)
            for one, other in zip(rests[1::2], rests[::-3]):
                found = [plus(p, item, further) for item in there[tuple(one)] for further in there[tuple(other)]]
                told = sorted({tuple(item) for item in found})
                self.assertEqual([list(item) for item in told], killed(p, prime, common_mark(p, prime, [one, other])))

    def test_long_lists_by_a_prime_of_the_power_6(self):
        start = time.process_time()
        self.assertEqual(common_mark(3, SIXTH[3], rests_by(3, SIXTH[3])), whole(3, SIXTH[3]))
        self.assertEqual(common_mark(7, SIXTH[7], [[]] * 1000), [1])
        self.assertLess(time.process_time() - start, 10)


class HandTest(unittest.TestCase):
    def test_told_by_hand(self):
        # By T + 1 rests are numbers c, T leads c to -c + c ** 3 = 0: the prime less 1 is T.
        self.assertEqual([mark_of(3, [1, 1], one) for one in [[], [1], [2]]], [[1], [0, 1], [0, 1]])
        self.assertEqual(killed(3, [1, 1], [0, 1]), [[], [1], [2]])
        self.assertEqual(first_maker(3, [1, 1]), [1])
        self.assertEqual(answers(3, [1, 1], [2], [1]), [[2]])
        self.assertEqual(bar(3, [1, 1], [0, 1], [2]), [2])
        self.assertEqual(prime_parts(3, [1, 1], [2]), [([0, 1], [2])])
        # By T, T leads c to c ** p = c.
        for p in PRIMES:
            self.assertEqual(mark_of(p, [0, 1], [1]), [p - 1, 1])
            self.assertEqual(first_maker(p, [0, 1]), [1])


if __name__ == "__main__":
    unittest.main()
