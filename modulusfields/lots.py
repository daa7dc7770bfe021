"""Rows of cosets: by a prime, the products of the lone rows to which the deeds of a group's items lead."""

from modulusfields.apart import apart, deed_steps, led_zero
from modulusfields.errors import InvalidModulus
from modulusfields.packed import field_of, pack_row, row_times, row_value_left, unpack_row
from modulusfields.polynomials import remainder
from modulusfields.primes import check_modulus, check_prime
from modulusfields.rests import check_group, cosets, generated
from modulusfields.rows import is_row


def lot_rows(p, modulus, prime, group):
    """Return the list of the lot rows, in order, or None if the rest of the prime is not in the group."""
    _check_all(p, modulus, prime, group)
    turned = remainder(p, prime, modulus)
    if turned not in group:
        return None
    # The prime leads each lone row to itself: one rest of each coset of what it generates tells all that there is.
    cycles = cosets(p, modulus, generated(p, modulus, [turned]))
    rests = [cycle[0] for cycle in cycles if cycle[0] in group]
    field = field_of(p, prime)
    left = [pack_row(row) for row in apart(p, modulus, prime)]
    found = []
    while left != []:
        lot = _rows_led(field, left, rests)
        found.append(unpack_row(_product(field, lot)))
        left = [row for row in left if row not in lot]
    return sorted(found)


def is_lot_row(p, modulus, prime, group, value):
    """Return whether a value is one of the lot rows."""
    rows = lot_rows(p, modulus, prime, group)
    if rows is None or not is_row(p, value, len(group) + 1, len(prime) - 2):
        return False
    return value in rows


def _check_all(p, modulus, prime, group):
    """Raise an error unless all arguments are what they are called, the prime one beside the modulus."""
    check_modulus(p, modulus)
    check_prime(p, prime)
    if remainder(p, modulus, prime) == []:
        raise InvalidModulus(prime)
    check_group(p, modulus, group)


def _rows_led(field, rows, rests):
    """Return those of several packed lone rows to which the deeds of rests lead the first one of them."""
    start = rows[0]
    steps = deed_steps(field, start, max([len(rest) for rest in rests]))
    zeros = [led_zero(field, rest, steps) for rest in rests]
    return [row for row in rows if any([row_value_left(field, start, row, zero) == [] for zero in zeros])]


def _product(field, rows):
    """Return the product of packed rows."""
    found = [1]
    for row in rows:
        found = row_times(field, found, row)
    return found
