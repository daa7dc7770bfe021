"""Residues turned over: walks that tell them, roots by a prime, and roots or primes by which there are none."""

from modulusfields.errors import InvalidNumber
from modulusfields.polynomials import (
    GREATEST_POWER,
    is_number,
    is_polynomial,
    is_whole,
    monics_of,
    multiplied,
    number_opposite,
    number_power,
    power_by,
    product_by,
    remainder,
    scaled,
)
from modulusfields.primes import check_p, check_prime, has_no_factors
from modulusfields.residues import check_both, residue_by, start_of, step_of, steps_of
from modulusfields.rests import check_polynomial


def walk(p, modulus, polynomial):
    """Return a walk that ends, from a modulus of a power of at most 30 and a polynomial."""
    check_both(p, modulus, polynomial)
    return steps_of(p, modulus, polynomial)


def is_walk(p, modulus, polynomial, value):
    """Return whether a value is a walk that ends, from a modulus of a power of at most 30 and a polynomial."""
    check_both(p, modulus, polynomial)
    if not isinstance(value, list) or not all([_is_step(p, item) for item in value]):
        return False
    ahead = start_of(modulus, polynomial)
    for item in value:
        if step_of(p, item[0], ahead) != item:
            return False
        ahead = item
    return ahead[2] in ([], [1])


def root(p, prime, count, polynomial):
    """Return a rest that, taken `count` times as a factor, is a polynomial's rest by a prime, or None."""
    check_prime(p, prime)
    _check_count(p, count)
    check_polynomial(p, polynomial)
    wanted = remainder(p, polynomial, prime)
    if wanted == []:
        return []
    if not _has_root(p, prime, count, wanted):
        return None
    return _root_of(p, prime, count, wanted)


def power_or_bar(p, count, polynomial):
    """Return the first polynomial that makes a polynomial if taken `count` times, or the first prime that bars it."""
    check_p(p)
    _check_count(p, count)
    check_polynomial(p, polynomial)
    if polynomial == []:
        return "power", []
    found = _whole_root(p, count, polynomial)
    if found is not None:
        return "power", found
    return "bar", _first_bar(p, count, polynomial)


def _check_count(p, count):
    """Raise `InvalidNumber` unless a value is a whole number of at least 1 that divides `p - 1`."""
    if not is_whole(count) or count < 1 or (p - 1) % count != 0:
        raise InvalidNumber(count)


def _is_step(p, value):
    """Return whether a value has the form of an item of a walk: none has a power above those handed in."""
    if not isinstance(value, tuple) or len(value) != 4:
        return False
    word, modulus, polynomial, number = value
    return (
        isinstance(word, str)
        and is_polynomial(p, modulus, GREATEST_POWER)
        and is_polynomial(p, polynomial, GREATEST_POWER)
        and is_number(p, number)
    )


def _has_root(p, prime, count, polynomial):
    """Return whether a polynomial that a prime does not divide has, by it, a root for a count."""
    return number_power(residue_by(p, prime, polynomial), (p - 1) // count) % p == 1


def _root_of(p, prime, count, wanted):
    """Return a root, for a count, of a rest that is not nought and has one."""
    # How many rests there are but nought, without the primes of the count.
    many = number_power(p, len(prime) - 1) - 1
    for factor in (2, 3):
        while count % factor == 0 and many % factor == 0:
            many //= factor
    # What is wanted, taken so many times, is a root but for a factor that is some rest taken `many` times.
    times = min([turn * many + 1 for turn in range(count) if (turn * many + 1) % count == 0]) // count
    nearly = power_by(p, prime, wanted, times)
    for power in range(len(prime) - 1):
        for one in [scaled(p, monic, number) for monic in monics_of(p, power) for number in range(1, p)]:
            found = product_by(p, prime, nearly, power_by(p, prime, one, many))
            if power_by(p, prime, found, count) == wanted:
                return found
    return None


def _whole_root(p, count, polynomial):
    """Return the first polynomial, in order, that makes one which is not nought if taken `count` times, or None."""
    heads = [number for number in range(1, p) if number_power(number, count) % p == polynomial[-1]]
    power = (len(polynomial) - 1) // count
    if heads == [] or len(polynomial) - 1 != power * count:
        return None
    monic = scaled(p, polynomial, number_opposite(p, polynomial[-1]))
    found = [0] * power + [1]
    turned = number_opposite(p, count)
    # Counted from above, the number at each place of the root stands, `count` times, in the power's number at that
    # place, beside what those above it make there.
    for place in range(1, power + 1):
        made = _taken(p, found, count)
        found[power - place] = (monic[-1 - place] - made[-1 - place]) * turned % p
    if _taken(p, found, count) != monic:
        return None
    return min([scaled(p, found, head) for head in heads])


def _taken(p, polynomial, count):
    """Return a polynomial taken `count` times as a factor."""
    found = [1]
    for _ in range(count):
        found = multiplied(p, found, polynomial)
    return found


def _first_bar(p, count, polynomial):
    """Return the first prime, by powers, by which a polynomial has no root: there is one if it has none itself."""
    power = 1
    while True:
        for monic in monics_of(p, power):
            if has_no_factors(p, monic) and remainder(p, polynomial, monic) != []:
                if not _has_root(p, monic, count, polynomial):
                    return monic
        power += 1
