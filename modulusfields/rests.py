"""Rests by a modulus: their products and orders, the free ones, groups of these and their cosets."""

from modulusfields.errors import InvalidGroup, InvalidList, InvalidPolynomial, InvalidRest
from modulusfields.polynomials import (
    GREATEST_POWER,
    common_factor,
    is_polynomial,
    number_power,
    opposite_by,
    product_by,
    remainder,
    rests_below,
)
from modulusfields.primes import check_modulus, factors_of


def rest_of(p, modulus, polynomial):
    """Return the rest of a polynomial by a modulus."""
    check_modulus(p, modulus)
    check_polynomial(p, polynomial)
    return remainder(p, polynomial, modulus)


def how_many_free(p, modulus):
    """Return how many rests by a modulus are free."""
    check_modulus(p, modulus)
    return how_many_free_by(p, modulus)


def free_rests(p, modulus):
    """Return the list of the free rests by a modulus, in order."""
    check_modulus(p, modulus)
    return [rest for rest in rests_below(p, len(modulus) - 1) if common_factor(p, modulus, rest) == [1]]


def rest_product(p, modulus, one, other):
    """Return the rest of the product of two rests by a modulus."""
    check_modulus(p, modulus)
    check_rest(p, modulus, one)
    check_rest(p, modulus, other)
    return product_by(p, modulus, one, other)


def rest_opposite(p, modulus, one):
    """Return the rest whose product with a free rest by a modulus is 1."""
    check_modulus(p, modulus)
    check_free(p, modulus, one)
    return opposite_by(p, modulus, one)


def order_of(p, modulus, one):
    """Return how many times a free rest has to be taken as a factor, at least once, to have the rest 1."""
    check_modulus(p, modulus)
    check_free(p, modulus, one)
    order = 1
    reached = one
    while reached != [1]:
        reached = product_by(p, modulus, reached, one)
        order += 1
    return order


def is_group(p, modulus, value):
    """Return whether a value is a group by a modulus."""
    check_modulus(p, modulus)
    # Just a group is the least group that has all its items, and that one stands in order.
    return _is_free_list(p, modulus, value) and least_group(p, modulus, value) == value


def generated(p, modulus, some):
    """Return the least group by a modulus that has all items of a list of free rests."""
    check_modulus(p, modulus)
    if not _is_free_list(p, modulus, some):
        raise InvalidList(some)
    return least_group(p, modulus, some)


def cosets(p, modulus, group):
    """Return the list, in order, of what comes of a group by taking all its items times each free rest."""
    check_modulus(p, modulus)
    check_group(p, modulus, group)
    seen = set()
    found = []
    # A free rest that is not seen yet is the first item of its coset, so the cosets come in order.
    for rest in free_rests(p, modulus):
        if tuple(rest) not in seen:
            coset = sorted(_products(p, modulus, rest, group))
            found.append(coset)
            for item in coset:
                seen.add(tuple(item))
    return found


def check_polynomial(p, polynomial):
    """Raise `InvalidPolynomial` unless a value is nought or a polynomial of a power of at most 60."""
    if not is_polynomial(p, polynomial, GREATEST_POWER):
        raise InvalidPolynomial(polynomial)


def check_rest(p, modulus, rest):
    """Raise `InvalidRest` unless a value is a rest by a modulus."""
    if not is_rest(p, modulus, rest):
        raise InvalidRest(rest)


def check_free(p, modulus, rest):
    """Raise `InvalidRest` unless a value is a free rest by a modulus."""
    if not _is_free(p, modulus, rest):
        raise InvalidRest(rest)


def check_group(p, modulus, group):
    """Raise `InvalidPrime`, `InvalidModulus` or `InvalidGroup` unless all arguments are what they are called."""
    if not is_group(p, modulus, group):
        raise InvalidGroup(group)


def least_group(p, modulus, some):
    """Return the least group that has all free rests of a list."""
    group = [[1]]
    for rest in some:
        # Powers of the rest, so long as they are new, make different cosets of the group so far.
        grown = group
        reached = rest
        while reached not in group:
            grown = grown + _products(p, modulus, reached, group)
            reached = product_by(p, modulus, reached, rest)
        group = grown
    return sorted(group)


def is_rest(p, modulus, value):
    """Return whether a value is a rest by a modulus."""
    return is_polynomial(p, value, len(modulus) - 2)


def how_many_free_by(p, monic):
    """Return how many rests by a monic polynomial of whatever power are free: 1 by the polynomial 1."""
    many = 1
    for prime, times in factors_of(p, monic):
        size = number_power(p, len(prime) - 1)
        many *= (size - 1) * number_power(size, times - 1)
    return many


def _is_free(p, modulus, value):
    """Return whether a value is a free rest by a modulus."""
    return is_rest(p, modulus, value) and common_factor(p, modulus, value) == [1]


def _is_free_list(p, modulus, value):
    """Return whether a value is a list of free rests by a modulus."""
    return isinstance(value, list) and all([_is_free(p, modulus, item) for item in value])


def _products(p, modulus, rest, rests):
    """Return the list of the products of a rest with each of several."""
    return [product_by(p, modulus, rest, item) for item in rests]
