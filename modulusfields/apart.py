"""Rows by a prime: how the own row of a modulus comes apart there, and how deeds lead one part to another one."""

from modulusfields.errors import InvalidList, InvalidPolynomial
from modulusfields.packed import (
    common_row,
    field_of,
    pack_row,
    raised_to_p,
    row_left,
    row_raised_left,
    row_times_left,
    row_total,
    row_value_left,
    scaled_row,
    unpack_row,
)
from modulusfields.polynomials import (
    GREATEST_POWER,
    common_factor,
    difference,
    divided,
    is_polynomial,
    opposite_by,
    product_by,
    remainder,
    taken_out,
)
from modulusfields.primes import check_modulus, check_prime
from modulusfields.rests import free_rests, how_many_free_by, order_of
from modulusfields.rows import is_row
from modulusfields.zeros import own_row


def row_by(p, modulus, prime):
    """Return the own row of a modulus with items as rests by a prime."""
    _check_both(p, modulus, prime)
    return [remainder(p, item, prime) for item in own_row(p, modulus)]


def apart_kind(p, modulus, prime):
    """Return the tuple of how many lone rows there are, of which power, and how many times each one stands."""
    _check_both(p, modulus, prime)
    _, left = taken_out(p, modulus, prime)
    shared, _ = divided(p, modulus, left)
    order = 1 if left == [1] else order_of(p, left, remainder(p, prime, left))
    return (how_many_free_by(p, left) // order, order, how_many_free_by(p, shared))


def apart(p, modulus, prime):
    """Return the list of the lone rows by a prime, in order."""
    many, order, _ = apart_kind(p, modulus, prime)
    field = field_of(p, prime)
    whole, left = _lone_product(p, modulus, prime)
    zeros = _zeros_together(field, whole, left)
    powers = zeros
    rows = [whole]
    # The sums of the zeros of a lone row, each taken once, twice and so on as a factor, are rests by the prime. If
    # they were alike for two lone rows so long as these have zeros, the lone rows would be alike themselves.
    for _ in range(2 * order - 1):
        if len(rows) < many:
            for trace in _traces(field, whole, row_total(field, powers)):
                rows = _split(field, rows, trace)
            powers = [row_times_left(field, whole, power, zero) for power, zero in zip(powers, zeros)]
    return sorted([unpack_row(row) for row in rows])


def is_apart(p, modulus, prime, value):
    """Return whether a value is one of the lone rows by a prime."""
    _, order, _ = apart_kind(p, modulus, prime)
    if not is_row(p, value, order + 1, len(prime) - 2) or len(value) != order + 1 or value[-1] != [1]:
        return False
    # The lone rows are different and all of this power: no other monic row of the power divides their product.
    whole, _ = _lone_product(p, modulus, prime)
    return row_left(field_of(p, prime), whole, pack_row(value)) == []


def led(p, modulus, prime, row, polynomial):
    """Return the lone row whose zeros come if the deed of a polynomial is taken of the zeros of one of them."""
    _check_lone(p, modulus, prime, row)
    if not is_polynomial(p, polynomial, GREATEST_POWER) or common_factor(p, modulus, polynomial) != [1]:
        raise InvalidPolynomial(polynomial)
    field = field_of(p, prime)
    whole, _ = _lone_product(p, modulus, prime)
    # What is looked for has those zeros that the deed of the opposite leads back to zeros of the row.
    back = opposite_by(p, modulus, remainder(p, polynomial, modulus))
    turned = led_zero(field, back, deed_steps(field, whole, len(back)))
    return unpack_row(common_row(field, whole, row_value_left(field, whole, pack_row(row), turned)))


def leader(p, modulus, prime, one, other):
    """Return the first free rest by a modulus that leads one lone row to another one: there always is one."""
    _check_lone(p, modulus, prime, one)
    _check_lone(p, modulus, prime, other)
    field = field_of(p, prime)
    start, end = pack_row(one), pack_row(other)
    _, left = taken_out(p, modulus, prime)
    steps = deed_steps(field, start, len(modulus) - 1)
    seen = set()
    for rest in free_rests(p, modulus):
        if tuple(remainder(p, rest, left)) not in seen:
            if row_value_left(field, start, end, led_zero(field, rest, steps)) == []:
                return rest
            # The deed of the prime leads each row to itself.
            for alike in _cycle(p, left, rest, prime):
                seen.add(tuple(alike))


def zeros_by(p, modulus, prime):
    """Return the list, in order, of the rests by a prime that are zeros of the own row."""
    _, order, _ = apart_kind(p, modulus, prime)
    if order > 1:
        return []
    return sorted([difference(p, [], row[0]) for row in apart(p, modulus, prime)])


def deed_steps(field, monic, many):
    """Return the packed rows that the deeds of 1, `T` and so on make of `X`, by a monic packed row."""
    turned = row_left(field, [0, 1], monic)
    steps = [turned]
    for _ in range(many - 1):
        times_t = scaled_row(field, turned, field["t"])
        turned = row_total(field, [times_t, row_raised_left(field, monic, turned)])
        steps.append(turned)
    return steps


def led_zero(field, polynomial, steps):
    """Return what the deed of a polynomial makes of `X`, put together of what 1, `T` and so on make."""
    made = [scaled_row(field, step, number) for step, number in zip(steps, polynomial) if number != 0]
    # Nought makes nought of anything.
    return row_total(field, [[]] + made)


def _check_both(p, modulus, prime):
    """Raise `InvalidPrime` or `InvalidModulus` unless all arguments are what they are called."""
    check_modulus(p, modulus)
    check_prime(p, prime)


def _check_lone(p, modulus, prime, row):
    """Raise an error unless all arguments are what they are called, the last one a lone row."""
    if not is_apart(p, modulus, prime, row):
        raise InvalidList(row)


def _lone_product(p, modulus, prime):
    """Return the packed product of the lone rows, and the part of the modulus that the prime does not divide."""
    _, left = taken_out(p, modulus, prime)
    row = [[], [1]] if left == [1] else row_by(p, left, prime)
    return pack_row(row), left


def _cycle(p, left, rest, prime):
    """Return the rests of a polynomial taken times the prime again and again, until they come back."""
    reached = remainder(p, rest, left)
    found = []
    while reached not in found:
        found.append(reached)
        reached = product_by(p, left, reached, prime)
    return found


def _zeros_together(field, whole, left):
    """Return what the prime's deed taken no times, once and so on makes of `X`: the zeros of one lone row."""
    # By the prime, its deed is nothing but X taken as a factor as many times as there are rests by it.
    steps = deed_steps(field, whole, len(left) - 1)
    return [led_zero(field, rest, steps) for rest in _cycle(field["p"], left, [1], field["prime"])]


def _traces(field, whole, row):
    """Return packed rows that are a number by each lone row, and together tell what a rest there is."""
    powers = [row]
    heads = [field["t"]]
    for _ in range(field["power"] - 1):
        powers.append(row_raised_left(field, whole, powers[-1]))
        heads.append(raised_to_p(field, heads[-1]))
    traces = []
    for _ in range(field["power"]):
        traces.append(row_total(field, powers))
        powers = [scaled_row(field, item, head) for item, head in zip(powers, heads)]
    return traces


def _split(field, rows, trace):
    """Return the monic factors that rows have in common with a packed row less each number."""
    found = []
    for row in rows:
        told = row_left(field, trace, row)
        if len(told) < 2:
            found.append(row)
        else:
            parts = [common_row(field, row, row_total(field, [told, [number]])) for number in range(field["p"])]
            found.extend([part for part in parts if len(part) > 1])
    return found
