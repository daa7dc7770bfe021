"""Primes in the classes of the free rests by a modulus: how many there are of a power, and the first ones."""

from modulusfields.classcounts import check_power, weight_lists
from modulusfields.errors import InvalidNumber
from modulusfields.polynomials import added, is_whole, monics_of, multiplied, power_by
from modulusfields.primes import GREATEST_PRIME_POWER, check_modulus, has_no_factors
from modulusfields.rests import check_free, free_rests, order_of


def primes_in_class(p, modulus, power, rest):
    """Return how many primes of a power lie in the class of a free rest."""
    check_power(p, modulus, power)
    check_free(p, modulus, rest)
    return primes_in_classes(p, modulus, power)[free_rests(p, modulus).index(rest)]


def primes_in_classes(p, modulus, power):
    """Return how many primes of a power lie in each class."""
    check_power(p, modulus, power)
    if power == 0:
        return [0] * len(free_rests(p, modulus))
    return prime_lists(p, modulus, power)[power]


def primes_of_order(p, modulus, power, order):
    """Return how many primes of a power do not divide the modulus and have a rest of an order."""
    check_power(p, modulus, power)
    if not is_whole(order) or order < 1:
        raise InvalidNumber(order)
    rests = free_rests(p, modulus)
    counts = primes_in_classes(p, modulus, power)
    return sum([many for rest, many in zip(rests, counts) if order_of(p, modulus, rest) == order])


def first_prime(p, modulus, rest):
    """Return the first prime in the class of a free rest, or None if it has none of a power of at most 6."""
    check_modulus(p, modulus)
    check_free(p, modulus, rest)
    for power in range(1, GREATEST_PRIME_POWER + 1):
        for monic in _monics_in_class(p, modulus, rest, power):
            if has_no_factors(p, monic):
                return monic
    return None


def prime_lists(p, modulus, power):
    """Return the lists of `primes_in_classes` for all divisors of a power of at least 1, by these."""
    weights = weight_lists(p, modulus, power)
    lists = {}
    for divisor in [n for n in range(1, power + 1) if power % n == 0]:
        left = list(weights[divisor])
        for lower in [n for n in lists if divisor % n == 0]:
            # A prime of a lower power weighs where its power of this power lies.
            for place, many in zip(_raised_places(p, modulus, divisor // lower), lists[lower]):
                left[place] -= lower * many
        lists[divisor] = [weight // divisor for weight in left]
    return lists


def _raised_places(p, modulus, count):
    """Return the places, among the free rests, of what comes of each if it is taken so many times as a factor."""
    rests = free_rests(p, modulus)
    places = {tuple(rest): place for place, rest in enumerate(rests)}
    return [places[tuple(power_by(p, modulus, rest, count))] for rest in rests]


def _monics_in_class(p, modulus, rest, power):
    """Return the monic polynomials of a power in the class of a rest, in order."""
    further = power - (len(modulus) - 1)
    if further >= 0:
        return sorted([added(p, rest, multiplied(p, modulus, factor)) for factor in monics_of(p, further)])
    return [list(rest)] if len(rest) == power + 1 and rest[-1] == 1 else []
