"""What belongs to the fields of groups: their genus, their places by degrees, and the polynomial of their classes."""

from modulusfields.classcounts import weight_lists
from modulusfields.classprimes import prime_lists
from modulusfields.errors import InvalidNumber
from modulusfields.places import far_group, far_places, index_of, near_group, order_by, places_by
from modulusfields.polynomials import is_whole, multiplied, number_power, taken_out
from modulusfields.primes import factors_of
from modulusfields.rests import check_group, free_rests

MOST_FURTHER = 1000


def genus(p, modulus, group):
    """Return the genus of the field of a group."""
    check_group(p, modulus, group)
    index = index_of(p, modulus, group)
    twice = 2 - 2 * index + index - index_of(p, modulus, far_group(p, modulus, group))
    for prime, times in factors_of(p, modulus):
        _, divisor = taken_out(p, modulus, prime)
        for _ in range(times):
            grown = near_group(p, modulus, group, divisor)
            twice += (len(prime) - 1) * (index - index_of(p, modulus, grown))
            divisor = multiplied(p, divisor, prime)
    return twice // 2


def how_many_places(p, modulus, group, degree):
    """Return how many places of a degree the field of a group has."""
    check_group(p, modulus, group)
    _check_count(degree)
    orders = [order_by(p, modulus, group, rest) for rest in free_rests(p, modulus)]
    index = index_of(p, modulus, group)
    many = sum([told[0] for told in _bound_places(p, modulus, group) if told[1] == degree])
    lists = prime_lists(p, modulus, degree)
    for power in lists:
        # A prime has places of this degree over it if its power of this power is the first one in the group.
        order = degree // power
        primes = sum([count for count, own in zip(lists[power], orders) if own == order])
        many += primes * index // order
    return many


def points(p, modulus, group, count):
    """Return the sum of the degrees of all places of the field of a group whose degrees divide a count."""
    check_group(p, modulus, group)
    _check_count(count)
    return _point_counts(p, modulus, group, count)[count]


def class_polynomial(p, modulus, group):
    """Return the polynomial of the classes of the field of a group, as the list of its numbers."""
    half = genus(p, modulus, group)
    counts = _point_counts(p, modulus, group, half)
    found = [1]
    for k in range(1, half + 1):
        lower = [(counts[i] - number_power(p, i) - 1) * found[k - i] for i in range(1, k + 1)]
        found.append(sum(lower) // k)
    # The numbers behind the one in the middle are those ahead of it, turned about.
    for k in range(half + 1, 2 * half + 1):
        found.append(number_power(p, k - half) * found[2 * half - k])
    return found


def further_points(p, modulus, group, count):
    """Return what `points` tells, for a count of at most 1000, by the polynomial of the classes alone."""
    check_group(p, modulus, group)
    _check_count(count)
    if count > MOST_FURTHER:
        raise InvalidNumber(count)
    numbers = class_polynomial(p, modulus, group)
    beyond = [0]
    for k in range(1, count + 1):
        own = k * numbers[k] if k < len(numbers) else 0
        start = max(1, k - len(numbers) + 1)
        beyond.append(own - sum([beyond[i] * numbers[k - i] for i in range(start, k)]))
    return beyond[count] + number_power(p, count) + 1


def _check_count(count):
    """Raise `InvalidNumber` unless a value is a whole number of at least 1."""
    if not is_whole(count) or count < 1:
        raise InvalidNumber(count)


def _bound_places(p, modulus, group):
    """Return what is told of the places over the primes that divide the modulus, and of the far ones."""
    told = [places_by(p, modulus, group, prime) for prime, _ in factors_of(p, modulus)]
    return told + [far_places(p, modulus, group)]


def _point_counts(p, modulus, group, most):
    """Return the list of what `points` tells for all counts from 1 to one, behind a 0."""
    index = index_of(p, modulus, group)
    bound = _bound_places(p, modulus, group)
    lists = weight_lists(p, modulus, most)
    inside = [place for place, rest in enumerate(free_rests(p, modulus)) if rest in group]
    found = [0]
    for count in range(1, most + 1):
        free = index * sum([lists[count][place] for place in inside])
        found.append(free + sum([many * degree for many, degree, _ in bound if count % degree == 0]))
    return found
