"""Rows of zeros: the row in `X` that has just those zeros of a modulus which no lesser divisor makes nought."""

from modulusfields.errors import InvalidList
from modulusfields.polynomials import added, divided, product_by, remainder
from modulusfields.primes import check_modulus, check_p, check_prime, factors
from modulusfields.rests import check_rest
from modulusfields.rows import deed_of, is_row, row_product_of, row_put, row_quotient

MOST_ITEMS = 101
GREATEST_ITEM_POWER = 200


def own_row(p, modulus):
    """Return the own row of a modulus."""
    primes = factors(p, modulus)
    row = [[], [1]]
    left = modulus
    for prime, _ in primes:
        # The row is that of a product which the prime does not divide: put in, it brings both rows.
        row = row_quotient(p, row_put(p, row, deed_of(p, prime)), row)
        left, _ = divided(p, left, prime)
    # All primes of what is left have come by now: put in, they bring one row each time.
    return row_put(p, row, deed_of(p, left))


def lean_row(p, modulus):
    """Return the own row of a modulus without the places that `p - 1` does not divide."""
    return own_row(p, modulus)[::p - 1]


def row_product(p, one, other):
    """Return the product of two rows in `X`."""
    check_p(p)
    _check_row(p, one)
    _check_row(p, other)
    return row_product_of(p, one, other)


def put_in(p, row, modulus):
    """Return a row in `X` with the deed row of a modulus in the place of `X`."""
    check_p(p)
    _check_row(p, row)
    check_modulus(p, modulus)
    return row_put(p, row, deed_of(p, modulus))


def own_value(p, modulus, prime, one):
    """Return the rest by a prime that comes of the own row of a modulus if `X` is replaced by a rest."""
    check_modulus(p, modulus)
    check_prime(p, prime)
    check_rest(p, prime, one)
    found = []
    for item in reversed(own_row(p, modulus)):
        found = added(p, product_by(p, prime, found, one), remainder(p, item, prime))
    return found


def _check_row(p, row):
    """Raise `InvalidList` unless a value is a row in `X` within its bounds."""
    if not is_row(p, row, MOST_ITEMS, GREATEST_ITEM_POWER):
        raise InvalidList(row)
