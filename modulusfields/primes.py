"""Moduli and primes: which polynomials are some, which primes have a power, of which primes a modulus is made."""

from modulusfields.errors import InvalidModulus, InvalidNumber, InvalidPrime, TooMany
from modulusfields.polynomials import (
    common_factor,
    difference,
    is_polynomial,
    is_whole,
    monics_of,
    number_power,
    power_by,
    taken_out,
)

# The greatest power of a modulus, for each `p` that there is.
MODULUS_POWERS = {3: 4, 5: 3, 7: 2}
GREATEST_PRIME_POWER = 6
MOST_PRIMES = 1000


def is_modulus(p, value):
    """Return whether a value is a modulus of a power within the bounds for `p`."""
    check_p(p)
    return is_monic(p, value, MODULUS_POWERS[p])


def is_prime(p, value):
    """Return whether a value is a prime modulus of a power of at most 6."""
    check_p(p)
    return is_monic(p, value, GREATEST_PRIME_POWER) and has_no_factors(p, value)


def primes_of(p, power):
    """Return the list of the prime moduli of a power from 1 to 6, in order."""
    check_p(p)
    if not is_whole(power) or not 1 <= power <= GREATEST_PRIME_POWER:
        raise InvalidNumber(power)
    many = _how_many_primes(p, power)
    if many > MOST_PRIMES:
        raise TooMany(many)
    return [monic for monic in monics_of(p, power) if has_no_factors(p, monic)]


def factors(p, modulus):
    """Return the list of the tuples `(prime, times)` of the primes of a modulus, in order."""
    check_modulus(p, modulus)
    return factors_of(p, modulus)


def check_p(p):
    """Raise `InvalidPrime` unless `p` is 3, 5 or 7."""
    if not is_whole(p) or p not in MODULUS_POWERS:
        raise InvalidPrime(p)


def check_modulus(p, modulus):
    """Raise `InvalidPrime` or `InvalidModulus` unless both arguments are what they are called."""
    if not is_modulus(p, modulus):
        raise InvalidModulus(modulus)


def check_prime(p, prime):
    """Raise `InvalidPrime` or `InvalidModulus` unless both arguments are what they are called."""
    if not is_prime(p, prime):
        raise InvalidModulus(prime)


def is_monic(p, value, greatest):
    """Return whether a value is a monic polynomial of a power from 1 to `greatest`."""
    return is_polynomial(p, value, greatest) and len(value) > 1 and value[-1] == 1


def has_no_factors(p, monic):
    """Return whether a monic polynomial of a power of at least 1 is prime."""
    # T ** (p ** k) - T is the product of all primes whose power divides k,
    # and a polynomial that is not prime has a prime factor of at most half its power.
    turned = [0, 1]
    for _ in range((len(monic) - 1) // 2):
        turned = power_by(p, monic, turned, p)
        if common_factor(p, monic, difference(p, turned, [0, 1])) != [1]:
            return False
    return True


def factors_of(p, monic):
    """Return the factors of a monic polynomial of whatever power, as `factors` does: none of the polynomial 1."""
    found = []
    left = monic
    power = 1
    # What has no factor of a power up to half its own has no other factors either.
    while 2 * power < len(left):
        for factor in monics_of(p, power):
            times, left = taken_out(p, left, factor)
            if times > 0:
                found.append((factor, times))
        power += 1
    if len(left) > 1:
        found.append((list(left), 1))
    return sorted(found)


def _how_many_primes(p, power):
    """Return how many primes have a power of at least 1."""
    counts = [0]
    for n in range(1, power + 1):
        below = sum([d * counts[d] for d in range(1, n) if n % d == 0])
        counts.append((number_power(p, n) - below) // n)
    return counts[power]
