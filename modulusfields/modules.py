"""Rests by a prime under deeds: their marks, which of them polynomials lead to nought or to other ones, and makers."""

from modulusfields.deeds import led_rest
from modulusfields.errors import InvalidList, InvalidPolynomial, TooMany
from modulusfields.maps import source_of, sums_of, told_by
from modulusfields.polynomials import (
    added,
    common_factor,
    difference,
    divided,
    multiplied,
    number_power,
    opposite_by,
    remainder,
    taken_out,
    trimmed,
)
from modulusfields.primes import check_prime, factors_of
from modulusfields.rests import check_polynomial, check_rest, how_many_free_by, is_rest
from modulusfields.rows import weighted

MOST_RESTS = 1000


def mark_of(p, prime, rest):
    """Return the mark of a rest: the monic polynomial of the least power that leads it to nought."""
    check_prime(p, prime)
    check_rest(p, prime, rest)
    return _mark(p, prime, rest)


def how_many_marked(p, prime, mark):
    """Return how many rests have a monic polynomial as their mark."""
    _check_mark(p, prime, mark)
    return how_many_free_by(p, mark) if remainder(p, _whole(p, prime), mark) == [] else 0


def marked(p, prime, mark):
    """Return a rest with a monic polynomial as its mark, or None if there is none."""
    _check_mark(p, prime, mark)
    further, left = divided(p, _whole(p, prime), mark)
    return led_rest(p, prime, further, _first_maker(p, prime)) if left == [] else None


def how_many_killed(p, prime, polynomial):
    """Return how many rests a polynomial leads to nought."""
    check_prime(p, prime)
    check_polynomial(p, polynomial)
    return _how_many_killed(p, prime, polynomial)


def killed(p, prime, polynomial):
    """Return the list of the rests that a polynomial leads to nought, in order, if they are not too many."""
    check_prime(p, prime)
    check_polynomial(p, polynomial)
    many = _how_many_killed(p, prime, polynomial)
    if many > MOST_RESTS:
        raise TooMany(many)
    _, noughts = told_by(p, _pairs(p, prime, polynomial))
    return sums_of(p, noughts)


def is_maker(p, prime, rest):
    """Return whether a rest is a maker: whether each rest comes of it by a polynomial."""
    return mark_of(p, prime, rest) == _whole(p, prime)


def first_maker(p, prime):
    """Return the first maker, in order."""
    check_prime(p, prime)
    return _first_maker(p, prime)


def answers(p, prime, polynomial, rest):
    """Return the list of all rests that a polynomial leads to a rest, in order, if they are not too many."""
    one = answer(p, prime, polynomial, rest)
    if one is None:
        return []
    return sorted([added(p, one, other) for other in killed(p, prime, polynomial)])


def answer(p, prime, polynomial, rest):
    """Return a rest that a polynomial leads to a rest, or None if there is none."""
    _check_question(p, prime, polynomial, rest)
    table, _ = told_by(p, _pairs(p, prime, polynomial))
    return source_of(p, table, rest)


def bar(p, prime, polynomial, rest):
    """Return what shows that a polynomial leads no rest to a rest, or None if it leads one there."""
    _check_question(p, prime, polynomial, rest)
    whole = _whole(p, prime)
    quotient, _ = divided(p, whole, common_factor(p, whole, polynomial))
    reached = led_rest(p, prime, quotient, rest)
    return None if reached == [] else reached


def prime_parts(p, prime, rest):
    """Return the tuples of the primes of the prime less 1, in order, and of the parts of a rest that they tell."""
    check_prime(p, prime)
    check_rest(p, prime, rest)
    whole = _whole(p, prime)
    found = []
    for factor, _ in factors_of(p, whole):
        _, others = taken_out(p, whole, factor)
        power, _ = divided(p, whole, others)
        # By its own prime's power this is 1, by those of the other primes nought: so it leads the rest to its part.
        telling = multiplied(p, others, opposite_by(p, power, remainder(p, others, power)))
        found.append((factor, led_rest(p, prime, telling, rest)))
    return found


def common_mark(p, prime, rests):
    """Return the monic polynomial of the least power that leads all rests of a list to nought."""
    check_prime(p, prime)
    if not isinstance(rests, list) or not all([is_rest(p, prime, rest) for rest in rests]):
        raise InvalidList(rests)
    found = [1]
    for rest in rests:
        left = led_rest(p, prime, found, rest)
        if left != []:
            found = multiplied(p, found, _mark(p, prime, left))
    return found


def _check_mark(p, prime, mark):
    """Raise an error unless all arguments are what they are called, the mark a monic polynomial, perhaps 1."""
    check_prime(p, prime)
    check_polynomial(p, mark)
    if mark == [] or mark[-1] != 1:
        raise InvalidPolynomial(mark)


def _check_question(p, prime, polynomial, rest):
    """Raise an error unless all arguments are what they are called."""
    check_prime(p, prime)
    check_polynomial(p, polynomial)
    check_rest(p, prime, rest)


def _whole(p, prime):
    """Return the prime less 1: the polynomial that leads all rests to nought."""
    return difference(p, prime, [1])


def _pairs(p, prime, polynomial):
    """Return the pairs that tell what a polynomial makes of rests: those of 1, `T` and so on."""
    # The prime less 1 leads all to nought, so what is left by it leads alike.
    left = remainder(p, polynomial, _whole(p, prime))
    sources = [[0] * place + [1] for place in range(len(prime) - 1)]
    return [(source, led_rest(p, prime, left, source)) for source in sources]


def _mark(p, prime, rest):
    """Return the mark of a rest by a prime."""
    pairs = []
    reached = rest
    for place in range(len(prime)):
        pairs.append(([0] * place + [1], reached))
        reached = led_rest(p, prime, [0, 1], reached)
    # The first sum that leads to nought has the least power, and its last source stands in it once: it is monic.
    _, noughts = told_by(p, pairs)
    return noughts[0]


def _how_many_killed(p, prime, polynomial):
    """Return how many rests a polynomial leads to nought."""
    return number_power(p, len(common_factor(p, _whole(p, prime), polynomial)) - 1)


def _first_maker(p, prime):
    """Return the first maker, in order."""
    whole = _whole(p, prime)
    maps = []
    for factor, _ in factors_of(p, whole):
        lesser, _ = divided(p, whole, factor)
        maps.append([made for _, made in _pairs(p, prime, lesser)])
    return _first_beyond(p, maps, [])


def _first_beyond(p, maps, numbers):
    """Return the first rest beginning with some numbers of which none of several maps makes nought, or None.

    A map is told by what it makes of 1, `T` and so on.
    """
    place = len(numbers)
    factors = [trimmed([number]) for number in numbers]
    for made in maps:
        # Where a map makes nought of all rests with this beginning, there is nothing to look for.
        if weighted(p, made, factors) == [] and all([item == [] for item in made[place:]]):
            return None
    if place == len(maps[0]):
        return trimmed(numbers)
    for number in range(p):
        found = _first_beyond(p, maps, numbers + [number])
        if found is not None:
            return found
    return None
