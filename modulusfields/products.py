"""Products of all polynomials of a power, or below it, and lists of polynomials told by the items of deeds."""

from modulusfields.deeds import check_short_power
from modulusfields.errors import InvalidList, InvalidNumber
from modulusfields.polynomials import difference, is_whole, multiplied, number_power, spread
from modulusfields.primes import MODULUS_POWERS, check_p
from modulusfields.rows import are_polynomials, deed_of, led_by_t, raised, row_sum, row_times, weighted

# The greatest power here, for each `p` that there is.
GREATEST_POWERS = {3: 3, 5: 2, 7: 2}
GREATEST_VALUE_POWER = 200


def monic_product(p, power):
    """Return the product of all monic polynomials of a power."""
    _check_power(p, power)
    return _all_monic(p, power)


def monic_multiple(p, power):
    """Return the monic polynomial of the least power that all monic polynomials of a power divide."""
    _check_power(p, power)
    found = [1]
    for higher in range(1, power + 1):
        found = multiplied(p, found, _powers_apart(p, higher, 0))
    return found


def lower_row(p, power):
    """Return, as a short row, the product of `X - N` over all polynomials `N` of lower powers."""
    _check_power(p, power)
    row = [[1]]
    for lower in range(power):
        # The product over all numbers c of Y - c * D is Y ** p - D ** (p - 1) * Y, and here D is what the row
        # makes of T ** lower: the product of all monic polynomials of the power `lower`.
        factor = [p - 1]
        for _ in range(p - 1):
            factor = multiplied(p, factor, _all_monic(p, lower))
        row = row_sum(p, raised(p, row), row_times(p, row, factor))
    return row


def lower_value(p, power, polynomial):
    """Return what comes if a polynomial is put in the place of `X` in the row of `lower_row`."""
    row = lower_row(p, power)
    check_short_power(p, polynomial)
    return weighted(p, row, [spread(polynomial, number_power(p, place)) for place in range(len(row))])


def through(p, values):
    """Return the list of polynomials that tells a list of polynomials through the deeds of 1, `T` and so on."""
    check_p(p)
    _check_values(p, values)
    parts = []
    turned = [[1]]
    for value in values:
        # The deed of T ** i has 1 at the place i and nothing behind it.
        parts.append(difference(p, value, weighted(p, parts, turned)))
        turned = led_by_t(p, turned)
    return parts


def summed(p, parts, polynomial):
    """Return the sum of the items of a polynomial's deed, each times the part at its place."""
    check_p(p)
    _check_values(p, parts)
    check_short_power(p, polynomial)
    return weighted(p, parts, deed_of(p, polynomial))


def _check_power(p, power):
    """Raise `InvalidPrime` or `InvalidNumber` unless both arguments are what they are called."""
    check_p(p)
    if not is_whole(power) or not 0 <= power <= GREATEST_POWERS[p]:
        raise InvalidNumber(power)


def _check_values(p, values):
    """Raise `InvalidList` unless a value is a list of polynomials, one for each power up to some one."""
    if not are_polynomials(p, values, GREATEST_VALUE_POWER) or not 1 <= len(values) <= MODULUS_POWERS[p] + 1:
        raise InvalidList(values)


def _powers_apart(p, higher, lower):
    """Return `T ** (p ** higher) - T ** (p ** lower)`."""
    return difference(p, spread([0, 1], number_power(p, higher)), spread([0, 1], number_power(p, lower)))


def _all_monic(p, power):
    """Return the product of all monic polynomials of a power."""
    found = [1]
    for lower in range(power):
        found = multiplied(p, found, _powers_apart(p, power, lower))
    return found
