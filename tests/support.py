"""What the tests share: values to be refused, and plain reckoning that owes nothing to the package."""

from itertools import product

PRIMES = (3, 5, 7)
MODULUS_POWERS = {3: 4, 5: 3, 7: 2}


def nested(depth):
    """Return a value of lists, tuples and dictionaries nested so deep."""
    value = 1
    for level in range(depth):
        value = [[value], (value,), {"in": value}][level % 3]
    return value


def any_values():
    """Return values of every kind, none of them a list of anything but oddities."""
    return [
        None, True, False, 0, 1, 2, 4, 9, 11, -1, -3, 10 ** 29, 10 ** 30 - 1, -(10 ** 29),
        "", "3", "[0, 1]", "a\n\t~", (), (3,), (0, 1), ([1],), {}, {3: 3}, {0: 0, 1: 1}, {"p": 3},
        [None], [True], [False, 1], ["0", 1], [[0], 1], [(0, 1)], [{}], nested(29), nested(30),
    ]


def bad_primes():
    return any_values() + [[], [3], [0, 1], 6, 8, 13]


def bad_polynomials(p):
    """Values that are no polynomial, of whatever power."""
    return any_values() + [
        [0], [0, 0], [1, 0], [1, 2, 0], [p], [0, p], [p, 1], [-1], [-1, 1], [1, -1], [1, p + 1], [10 ** 29, 1],
        [True], [1, True], [True, 1], [0, False, 1], [False], [None, 1], ["1"], [1, "1"], [[1]], [[0, 1]],
        [0, [1]], [(1,)], (1,), (1, 2), [(), 1], "1", [1, None],
    ]


def bad_moduli(p):
    """Values that are no modulus within the bounds for `p`."""
    long = MODULUS_POWERS[p] + 1
    return bad_polynomials(p) + [
        [], [1], [2], [0, 2], [1, 2], [1, 0, 2], [0, 0, p - 1],
        [0] * long + [1], [1] * (long + 1), [0] * 30 + [1], [0] * 61 + [1],
    ]


def times(p, one, other):
    """The product of two polynomials, number by number."""
    if not one or not other:
        return []
    result = []
    for place in range(len(one) + len(other) - 1):
        result.append(sum(one[k] * other[place - k] for k in range(len(one)) if 0 <= place - k < len(other)) % p)
    return result


def rest(p, polynomial, monic):
    """The rest by a monic polynomial: its multiples are taken away from above."""
    numbers = list(polynomial)
    while len(numbers) >= len(monic):
        head = numbers[-1]
        shift = len(numbers) - len(monic)
        numbers = [(n - head * monic[k - shift]) % p if k >= shift else n for k, n in enumerate(numbers)]
        numbers.pop()
    while numbers and numbers[-1] == 0:
        numbers.pop()
    return numbers


def monics(p, power):
    """All monic polynomials of a power, in order."""
    return [list(numbers) + [1] for numbers in product(range(p), repeat=power)]


def rests_by(p, modulus):
    """All rests by a modulus, in order."""
    found = []
    for length in range(len(modulus)):
        found += [list(numbers) for numbers in product(range(p), repeat=length) if not numbers or numbers[-1]]
    return sorted(found)


def free_by(p, modulus):
    """All free rests: those that have an opposite."""
    rests = rests_by(p, modulus)
    return [one for one in rests if any(rest(p, times(p, one, other), modulus) == [1] for other in rests)]


def sieved(p, power):
    """All primes of a power, in order: the monic polynomials that are no product of two of lower powers."""
    products = set()
    for low in range(1, power // 2 + 1):
        for one in monics(p, low):
            for other in monics(p, power - low):
                products.add(tuple(times(p, one, other)))
    return [one for one in monics(p, power) if tuple(one) not in products]


def all_moduli(p):
    return [modulus for power in range(1, MODULUS_POWERS[p] + 1) for modulus in monics(p, power)]


def some_moduli(p):
    """Moduli of each shape: of power 1, prime, with a prime several times, with several primes."""
    return {
        3: [[0, 1], [2, 1], [0, 0, 1], [1, 0, 1], [0, 1, 1], [0, 0, 2, 1], [1, 2, 0, 1]],
        5: [[0, 1], [3, 1], [0, 0, 1], [2, 0, 1], [0, 1, 1]],
        7: [[0, 1], [6, 1], [0, 0, 1], [1, 0, 1]],
    }[p]


def lists_within(value):
    """Return all list objects that a value is made of, as often as they stand in it."""
    found = []
    if isinstance(value, list):
        found.append(value)
    if isinstance(value, (list, tuple)):
        for item in value:
            found += lists_within(item)
    return found
