"""What several modules need of rows: lists of polynomials of which the last one is not nought.

In a row in `X` the item at the place `k` stands at `X ** k`, in a short row at `X ** (p ** k)`.
Nothing here is checked but by the functions that tell whether a value is something.
Each function returns new lists all through.
"""

from modulusfields.polynomials import added, difference, is_polynomial, multiplied, number_power, spread, trimmed


def are_polynomials(p, value, greatest):
    """Return whether a value is a list of polynomials that are nought or have at most the power `greatest`."""
    return isinstance(value, list) and all([is_polynomial(p, item, greatest) for item in value])


def is_row(p, value, most, greatest):
    """Return whether a value is a row of at most `most` such polynomials."""
    if not isinstance(value, list) or len(value) > most or not are_polynomials(p, value, greatest):
        return False
    return value == [] or value[-1] != []


def without_noughts(items):
    """Return the items without those at their end that are nought."""
    many = len(items)
    while many > 0 and items[many - 1] == []:
        many -= 1
    return items[:many]


def row_sum(p, one, other):
    """Return the sum of two rows."""
    shared = [added(p, item, further) for item, further in zip(one, other)]
    alone = [list(item) for item in one[len(shared):] + other[len(shared):]]
    return without_noughts(shared + alone)


def row_times(p, row, polynomial):
    """Return a row with each of its items taken times a polynomial that is not nought."""
    return [multiplied(p, item, polynomial) for item in row]


def weighted(p, one, other):
    """Return the sum of the products of the items of two lists at the places that both have."""
    found = []
    for item, further in zip(one, other):
        found = added(p, found, multiplied(p, item, further))
    return found


def raised(p, short):
    """Return a short row, or what it stands for, taken `p` times as a factor: it moves up by a place."""
    return without_noughts([[]] + [spread(item, p) for item in short])


def led_by_t(p, short):
    """Return the deed of `T` with a short row in the place of `X`."""
    return row_sum(p, row_times(p, short, [0, 1]), raised(p, short))


def deed_of(p, polynomial):
    """Return the deed of a polynomial of whatever power."""
    found = []
    for number in reversed(polynomial):
        found = row_sum(p, led_by_t(p, found), without_noughts([trimmed([number])]))
    return found


def row_product_of(p, one, other):
    """Return the product of two rows in `X`."""
    if one == [] or other == []:
        return []
    sums = [[] for _ in range(len(one) + len(other) - 1)]
    for place, item in enumerate(one):
        for further, factor in enumerate(other):
            sums[place + further] = added(p, sums[place + further], multiplied(p, item, factor))
    return sums


def row_quotient(p, row, divisor):
    """Return the quotient of a row in `X` and of one that divides it and has 1 as its last item."""
    left = [list(item) for item in row]
    power = len(divisor) - 1
    quotient = [[] for _ in range(len(row) - power)]
    for place in reversed(range(len(quotient))):
        quotient[place] = left[place + power]
        for further, item in enumerate(divisor):
            left[place + further] = difference(p, left[place + further], multiplied(p, quotient[place], item))
    return quotient


def row_put(p, row, short):
    """Return a row in `X` with what a short row stands for in the place of `X`."""
    found = []
    for item in reversed(row):
        found = row_sum(p, _times_short(p, found, short), without_noughts([item]))
    return found


def _times_short(p, row, short):
    """Return the product of a row in `X` and of what a short row stands for."""
    if row == [] or short == []:
        return []
    sums = [[] for _ in range(len(row) + number_power(p, len(short) - 1))]
    for place, item in enumerate(short):
        power = number_power(p, place)
        for further, factor in enumerate(row):
            sums[power + further] = added(p, sums[power + further], multiplied(p, item, factor))
    return sums
