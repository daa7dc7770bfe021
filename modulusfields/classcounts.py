"""Monic polynomials and weights of primes, told for each class of the free rests by a modulus."""

from modulusfields.errors import InvalidNumber
from modulusfields.polynomials import is_whole, number_power, product_by
from modulusfields.primes import check_modulus
from modulusfields.rests import free_rests


def monics_in_classes(p, modulus, power):
    """Return how many monic polynomials of a power lie in each class."""
    check_power(p, modulus, power)
    return _monics_in(p, modulus, free_rests(p, modulus), power)


def weights_in_classes(p, modulus, power):
    """Return for each class the sum of the powers of the primes of which a power of this power lies in it."""
    check_power(p, modulus, power)
    return weight_lists(p, modulus, power)[power]


def check_power(p, modulus, power):
    """Raise an error unless all arguments are what they are called, the power a count."""
    check_modulus(p, modulus)
    if not is_whole(power) or power < 0:
        raise InvalidNumber(power)


def weight_lists(p, modulus, most):
    """Return the lists of `weights_in_classes` for all powers up to the power `most`."""
    rests = free_rests(p, modulus)
    moves = _moves(p, modulus, rests)
    lists = [[0] * len(rests)]
    for power in range(1, most + 1):
        alike = _alike_part(p, len(modulus) - 1, lists)
        found = [power * many - alike for many in _monics_in(p, modulus, rests, power)]
        for lower, places in moves:
            if lower < power:
                for place, weight in zip(places, lists[power - lower]):
                    found[place] -= weight
        lists.append(found)
    return lists


def _monics_in(p, modulus, rests, power):
    """Return how many monic polynomials of a power lie in the class of each rest."""
    further = power - (len(modulus) - 1)
    if further >= 0:
        return [number_power(p, further)] * len(rests)
    return [1 if len(rest) == power + 1 and rest[-1] == 1 else 0 for rest in rests]


def _alike_part(p, bound, lists):
    """Return what the weights so far bring, alike in each class, with monic polynomials from a power on.

    From the power of the modulus on, `bound`, equally many monic polynomials lie in each class.
    """
    power = len(lists)
    return sum([number_power(p, power - k - bound) * sum(lists[k]) for k in range(1, power - bound + 1)])


def _moves(p, modulus, rests):
    """Return for each monic one of the free rests, but 1, its power and the places of its products with all."""
    places = {tuple(rest): place for place, rest in enumerate(rests)}
    monics = [rest for rest in rests if len(rest) > 1 and rest[-1] == 1]
    return [
        (len(monic) - 1, [places[tuple(product_by(p, modulus, monic, rest))] for rest in rests]) for monic in monics
    ]
