"""What the tests share: values to be refused, and plain reckoning that owes nothing to the package."""

from copy import deepcopy
from itertools import product, zip_longest

PRIMES = (3, 5, 7)
MODULUS_POWERS = {3: 4, 5: 3, 7: 2}
# Primes of the greatest power, and one of the power 4.
SIXTH = {3: [1, 1, 2, 0, 1, 2, 1], 5: [2, 3, 4, 3, 0, 0, 1], 7: [4, 6, 5, 2, 0, 0, 1]}
FOURTH = {3: [2, 0, 0, 1, 1], 5: [2, 3, 4, 3, 1], 7: [5, 6, 3, 2, 1]}


def nested(depth):
    """Return a value of lists, tuples and dictionaries nested so deep."""
    value = 1
    for level in range(depth):
        value = [[value], (value,), {"in": value}][level % 3]
    return value


def any_values():
    """Return values of every kind, none of them a list of anything but oddities."""
    return [
        None, True, False, 0, 1, 2, 4, 9, 11, -1, -3, 10 ** 29, 10 ** 30 - 1, -(10 ** 29),
        "", "3", "[0, 1]", "a\n\t~", (), (3,), (0, 1), ([1],), {}, {3: 3}, {0: 0, 1: 1}, {"p": 3},
        [None], [True], [False, 1], ["0", 1], [[0], 1], [(0, 1)], [{}], nested(29), nested(30),
    ]


def bad_primes():
    return any_values() + [[], [3], [0, 1], 6, 8, 13]


def bad_polynomials(p):
    """Values that are no polynomial, of whatever power."""
    return any_values() + [
        [0], [0, 0], [1, 0], [1, 2, 0], [p], [0, p], [p, 1], [-1], [-1, 1], [1, -1], [1, p + 1], [10 ** 29, 1],
        [True], [1, True], [True, 1], [0, False, 1], [False], [None, 1], ["1"], [1, "1"], [[1]], [[0, 1]],
        [0, [1]], [(1,)], (1,), (1, 2), [(), 1], "1", [1, None],
    ]


def bad_moduli(p):
    """Values that are no modulus within the bounds for `p`."""
    long = MODULUS_POWERS[p] + 1
    return bad_polynomials(p) + [
        [], [1], [2], [0, 2], [1, 2], [1, 0, 2], [0, 0, p - 1],
        [0] * long + [1], [1] * (long + 1), [0] * 30 + [1], [0] * 61 + [1],
    ]


def times(p, one, other):
    """The product of two polynomials, number by number."""
    if not one or not other:
        return []
    result = []
    for place in range(len(one) + len(other) - 1):
        result.append(sum(one[k] * other[place - k] for k in range(len(one)) if 0 <= place - k < len(other)) % p)
    return result


def rest(p, polynomial, monic):
    """The rest by a monic polynomial: its multiples are taken away from above."""
    numbers = list(polynomial)
    while len(numbers) >= len(monic):
        head = numbers[-1]
        shift = len(numbers) - len(monic)
        numbers = [(n - head * monic[k - shift]) % p if k >= shift else n for k, n in enumerate(numbers)]
        numbers.pop()
    while numbers and numbers[-1] == 0:
        numbers.pop()
    return numbers


def cut(items, nothing):
    """The items without those at the end that are nothing."""
    items = list(items)
    while items and items[-1] == nothing:
        items.pop()
    return items


def plus(p, one, other):
    """The sum of two polynomials."""
    return cut([sum(numbers) % p for numbers in zip_longest(one, other, fillvalue=0)], 0)


def minus(p, one, other):
    """The one polynomial less the other one."""
    return plus(p, one, [-number % p for number in other])


def taken(p, polynomial, count):
    """A polynomial taken so many times as a factor."""
    result = [1]
    for _ in range(count):
        result = times(p, result, polynomial)
    return result


def quotient(p, polynomial, monic):
    """The quotient of a polynomial and of a monic one that divides it."""
    numbers, found = list(polynomial), []
    while len(numbers) >= len(monic):
        head = numbers[-1]
        found.insert(0, head)
        for k, number in enumerate(monic):
            numbers[len(numbers) - len(monic) + k] -= head * number
        numbers = [number % p for number in numbers[:-1]]
    assert not any(numbers)
    return found


def monic_divisors(p, modulus):
    """All monic polynomials that divide a modulus, 1 and itself among them."""
    found = [one for power in range(1, len(modulus)) for one in monics(p, power) if rest(p, modulus, one) == []]
    return [[1]] + found


def told_deed(p, polynomial):
    """The deed of a polynomial, each item made of the one ahead of it as the document tells."""
    items = [list(polynomial)] if polynomial else []
    for k in range(1, len(polynomial)):
        below = minus(p, [0] * p ** k + [1], [0, 1])
        items.append(quotient(p, minus(p, taken(p, items[-1], p), items[-1]), below))
    return items


def put_by(p, prime, short, one):
    """What comes by a prime if a rest is put in the place of `X` in a short row."""
    result, power = [], rest(p, one, prime)
    for item in short:
        result = plus(p, result, rest(p, times(p, item, power), prime))
        power = rest(p, taken(p, power, p), prime)
    return result


def wide(p, short):
    """A short row as a row in `X`."""
    if not short:
        return []
    row = [[] for _ in range(p ** (len(short) - 1) + 1)]
    for k, item in enumerate(short):
        row[p ** k] = item
    return row


def row_plus(p, one, other):
    """The sum of two rows."""
    return cut([plus(p, item, further) for item, further in zip_longest(one, other, fillvalue=[])], [])


def row_times(p, one, other):
    """The product of two rows in `X`."""
    if not one or not other:
        return []
    result = [[] for _ in range(len(one) + len(other) - 1)]
    for k, item in enumerate(one):
        for n, factor in enumerate(other):
            if item and factor:
                result[k + n] = plus(p, result[k + n], times(p, item, factor))
    return result


def row_put(p, row, inner):
    """A row in `X` with another one in the place of `X`: the sum of its items times what the other one is taken."""
    result, factor = [], [[1]]
    for item in row:
        result = row_plus(p, result, row_times(p, [item] if item else [], factor))
        factor = row_times(p, factor, inner)
    return result


def by(p, prime, row):
    """A row with items as rests by a prime."""
    return cut([rest(p, item, prime) for item in row], [])


def row_rest(p, prime, row, monic):
    """The rest of a row by a monic row by the prime: its multiples are taken away from above."""
    items = by(p, prime, row)
    while len(items) >= len(monic):
        head, shift = items[-1], len(items) - len(monic)
        for k, item in enumerate(monic):
            items[shift + k] = minus(p, items[shift + k], rest(p, times(p, head, item), prime))
        items = cut(items, [])
    return items


def row_put_rest(p, prime, row, inner, monic):
    """The rest by a monic row by the prime of a row with another one in the place of `X`."""
    result = []
    for item in reversed(row):
        result = row_rest(p, prime, row_times(p, result, inner), monic)
        result = row_plus(p, result, [item] if item else [])
    return by(p, prime, result)


def monic_rows(p, prime, power):
    """All monic rows of a power by a prime."""
    return [[list(one) for one in ends] + [[1]] for ends in product(rests_by(p, prime), repeat=power)]


def monics(p, power):
    """All monic polynomials of a power, in order."""
    return [list(numbers) + [1] for numbers in product(range(p), repeat=power)]


def rests_by(p, modulus):
    """All rests by a modulus, in order."""
    found = []
    for length in range(len(modulus)):
        found += [list(numbers) for numbers in product(range(p), repeat=length) if not numbers or numbers[-1]]
    return sorted(found)


def kept(function):
    """A function of `p` and something that keeps what it has found; what it returns is new each time."""
    found = {}

    def told(p, some):
        key = (p, repr(some))
        if key not in found:
            found[key] = function(p, some)
        return deepcopy(found[key])

    return told


@kept
def free_by(p, modulus):
    """All free rests: those that have an opposite."""
    rests = rests_by(p, modulus)
    return [one for one in rests if any(rest(p, times(p, one, other), modulus) == [1] for other in rests)]


@kept
def sieved(p, power):
    """All primes of a power, in order: the monic polynomials that are no product of two of lower powers."""
    products = set()
    for low in range(1, power // 2 + 1):
        for one in monics(p, low):
            for other in monics(p, power - low):
                products.add(tuple(times(p, one, other)))
    return [one for one in monics(p, power) if tuple(one) not in products]


def all_moduli(p):
    return [modulus for power in range(1, MODULUS_POWERS[p] + 1) for modulus in monics(p, power)]


def some_moduli(p):
    """Moduli of each shape: of power 1, prime, with a prime several times, with several primes."""
    return {
        3: [[0, 1], [2, 1], [0, 0, 1], [1, 0, 1], [0, 1, 1], [0, 0, 2, 1], [1, 2, 0, 1]],
        5: [[0, 1], [3, 1], [0, 0, 1], [2, 0, 1], [0, 1, 1]],
        7: [[0, 1], [6, 1], [0, 0, 1], [1, 0, 1]],
    }[p]


def some_pairs():
    """Moduli within the limits with primes: each shape of a modulus, primes within it and beside it."""
    return [
        (3, [0, 1], [0, 1]), (3, [0, 1], [1, 1]), (3, [0, 1], [2, 1]), (3, [2, 1], [1, 0, 1]),
        (3, [1, 0, 1], [1, 0, 1]), (3, [1, 0, 1], [0, 1]), (3, [1, 0, 1], [1, 1]),
        (3, [0, 0, 1], [0, 1]), (3, [0, 0, 1], [1, 1]), (3, [0, 0, 1], [2, 1]),
        (3, [0, 2, 1], [0, 1]), (3, [0, 2, 1], [1, 1]), (3, [0, 2, 1], [2, 1]),
        (3, [0, 0, 2, 1], [0, 1]), (3, [0, 0, 2, 1], [1, 1]), (3, [0, 0, 2, 1], [2, 1]), (3, [0, 0, 2, 1], [2, 1, 1]),
        (3, [0, 0, 0, 1], [1, 1]), (3, [0, 0, 0, 1], [1, 0, 1]), (3, [0, 1, 0, 1], [0, 1]),
        (3, [0, 1, 0, 1], [1, 0, 1]), (3, [0, 2, 0, 1], [2, 1, 1]), (3, [0, 2, 0, 1], [1, 2, 0, 1]),
        (5, [0, 1], [0, 1]), (5, [0, 1], [1, 1]), (5, [0, 1], [2, 1]), (5, [0, 1], [4, 1]), (5, [3, 1], [2, 0, 1]),
        (5, [0, 1, 1], [0, 1]), (5, [0, 1, 1], [2, 1]), (5, [0, 0, 1], [1, 1]), (5, [0, 0, 1], [0, 1]),
        (5, [2, 0, 1], [0, 1]), (7, [0, 1], [0, 1]), (7, [0, 1], [1, 1]), (7, [0, 1], [2, 1]), (7, [0, 1], [3, 1]),
        (7, [4, 1], [1, 0, 1]), (7, [0, 1, 1], [0, 1]), (7, [0, 1, 1], [2, 1]),
    ]


@kept
def prime_powers_of(p, modulus):
    """The primes of a modulus, in order, each with how many times it stands there."""
    found = []
    for power in range(1, len(modulus)):
        for prime in sieved(p, power):
            count, left = 0, list(modulus)
            while len(left) > power and rest(p, left, prime) == []:
                count, left = count + 1, quotient(p, left, prime)
            if count:
                found.append((prime, count))
    return sorted(found)


def taken_by(p, prime, one, count):
    """The rest of a polynomial taken so many times as a factor."""
    result, square = [1], rest(p, one, prime)
    while count:
        if count % 2:
            result = rest(p, times(p, result, square), prime)
        square, count = rest(p, times(p, square, square), prime), count // 2
    return result


def residue_by_powers(p, prime, one):
    """The residue of a polynomial by a prime: 0, or what its power is as a number."""
    if rest(p, one, prime) == []:
        return 0
    power = taken_by(p, prime, one, (p ** (len(prime) - 1) - 1) // (p - 1))
    assert len(power) == 1
    return power[0]


def least_group(p, modulus, some):
    """The least group that has all of some free rests: products are added until no new one comes."""
    group, added = [[1]], [[1]]
    while added:
        products = [rest(p, times(p, one, other), modulus) for one in added for other in some]
        added = [list(one) for one in sorted({tuple(one) for one in products if one not in group})]
        group += added
    return sorted(group)


@kept
def groups_by(p, modulus):
    """The groups by a modulus that one or two free rests generate, each once."""
    free, found = free_by(p, modulus), []
    for one in free:
        group = least_group(p, modulus, [one])
        if group not in found:
            found.append(group)
    for one in list(found):
        for other in list(found):
            group = least_group(p, modulus, one + other)
            if group not in found:
                found.append(group)
    return found


def lists_within(value):
    """Return all list objects that a value is made of, as often as they stand in it."""
    found = []
    if isinstance(value, list):
        found.append(value)
    if isinstance(value, (list, tuple)):
        for item in value:
            found += lists_within(item)
    return found
