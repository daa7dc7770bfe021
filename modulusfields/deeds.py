"""Deeds: what a polynomial makes of `X`, as a short row, and what it makes of a rest by a prime."""

from modulusfields.errors import InvalidList, InvalidPolynomial
from modulusfields.polynomials import (
    added,
    is_polynomial,
    multiplied,
    number_power,
    remainder,
    spread,
    trimmed,
)
from modulusfields.primes import MODULUS_POWERS, check_p, check_prime
from modulusfields.rests import check_polynomial, check_rest
from modulusfields.rows import deed_of, is_row, led_by_t, row_sum

MOST_ITEMS = 8
GREATEST_ITEM_POWER = 2000


def deed(p, polynomial):
    """Return the deed of a polynomial as a short row."""
    check_p(p)
    check_short_power(p, polynomial)
    return deed_of(p, polynomial)


def is_short(p, value):
    """Return whether a value is a short row of at most 8 items."""
    check_p(p)
    return is_row(p, value, MOST_ITEMS, GREATEST_ITEM_POWER)


def short_sum(p, one, other):
    """Return the sum of two short rows."""
    _check_short(p, one)
    _check_short(p, other)
    return row_sum(p, one, other)


def short_put(p, one, other):
    """Return a short row with another one in the place of `X`."""
    _check_short(p, one)
    _check_short(p, other)
    if one == [] or other == []:
        return []
    sums = [[] for _ in range(len(one) + len(other) - 1)]
    for place, item in enumerate(one):
        step = number_power(p, place)
        for further, inner in enumerate(other):
            made = multiplied(p, spread(inner, step), item)
            sums[place + further] = added(p, sums[place + further], made)
    return sums


def unlike_place(p, short):
    """Return the least place at which it matters whether the deed of `T` comes ahead of a short row, or None."""
    _check_short(p, short)
    outside = led_by_t(p, short)
    below = []
    for place, item in enumerate(short + [[]]):
        # With the deed of T in the place of X: the item times T ** (p ** place), and the item ahead of it.
        turned = [] if item == [] else [0] * number_power(p, place) + item
        inside = added(p, below, turned)
        if inside != (outside[place] if place < len(outside) else []):
            return place
        below = item
    return None


def acted(p, prime, polynomial, rest):
    """Return the rest by a prime that the deed of a polynomial makes of a rest."""
    check_prime(p, prime)
    check_polynomial(p, polynomial)
    check_rest(p, prime, rest)
    return led_rest(p, prime, polynomial, rest)


def check_short_power(p, polynomial):
    """Raise `InvalidPolynomial` unless a value is nought or a polynomial of a power that a modulus may have."""
    if not is_polynomial(p, polynomial, MODULUS_POWERS[p]):
        raise InvalidPolynomial(polynomial)


def led_rest(p, prime, polynomial, rest):
    """Return what the deed of a polynomial makes of a rest by a prime, as `acted` does."""
    found = []
    for number in reversed(polynomial):
        # The deed of `number + T * N` makes `number * rest` and what that of T makes of what N has made.
        turned = added(p, multiplied(p, [0, 1], found), spread(found, p))
        found = remainder(p, added(p, turned, multiplied(p, trimmed([number]), rest)), prime)
    return found


def _check_short(p, short):
    """Raise `InvalidPrime` or `InvalidList` unless both arguments are what they are called."""
    if not is_short(p, short):
        raise InvalidList(short)
