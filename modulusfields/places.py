"""Places of the fields of groups: how many there are over a prime and the far place, their degree and their times."""

from modulusfields.polynomials import difference, product_by, remainder, taken_out
from modulusfields.primes import check_prime
from modulusfields.rests import check_group, free_rests, how_many_free_by, least_group


def places_over(p, modulus, group, prime):
    """Return how many places a field has over a prime, their degree, and how many times each one stands there."""
    check_group(p, modulus, group)
    check_prime(p, prime)
    return places_by(p, modulus, group, prime)


def far_places(p, modulus, group):
    """Return how many far places a field has, their degree, which is 1, and how many times each one stands there."""
    check_group(p, modulus, group)
    times = len(far_group(p, modulus, group)) // len(group)
    return index_of(p, modulus, group) // times, 1, times


def index_of(p, modulus, group):
    """Return how many cosets a group has."""
    return how_many_free_by(p, modulus) // len(group)


def far_group(p, modulus, group):
    """Return the least group that has all items of a group, and all numbers but 0."""
    return least_group(p, modulus, group + [[number] for number in range(1, p)])


def near_group(p, modulus, group, divisor):
    """Return the least group that has all items of a group, and all free rests in one class with 1 by a divisor."""
    near = [rest for rest in free_rests(p, modulus) if _are_alike(p, divisor, rest, [1])]
    return least_group(p, modulus, group + near)


def order_by(p, modulus, group, rest):
    """Return how many times a free rest has to be taken as a factor, at least once, to come into a group."""
    order = 1
    reached = rest
    while reached not in group:
        reached = product_by(p, modulus, reached, rest)
        order += 1
    return order


def places_by(p, modulus, group, prime):
    """Return what `places_over` tells."""
    # For a prime that does not divide the modulus all of it is left, and the group stays as it is.
    _, left = taken_out(p, modulus, prime)
    grown = near_group(p, modulus, group, left)
    turn = [rest for rest in free_rests(p, modulus) if _are_alike(p, left, rest, prime)][0]
    further = order_by(p, modulus, grown, turn)
    times = len(grown) // len(group)
    return index_of(p, modulus, group) // (further * times), (len(prime) - 1) * further, times


def _are_alike(p, modulus, one, other):
    """Return whether two polynomials are in one class by a monic polynomial, perhaps by 1."""
    return remainder(p, difference(p, one, other), modulus) == []
