"""Residues of polynomials by moduli, and the steps of walks that tell them without the primes of the modulus."""

from modulusfields.errors import InvalidModulus, InvalidNumber
from modulusfields.polynomials import is_whole, number_opposite, number_power, remainder, scaled
from modulusfields.primes import check_modulus, check_p, factors_of, is_monic
from modulusfields.rests import check_polynomial, how_many_free_by

GREATEST_LONG_POWER = 30


def residue(p, modulus, polynomial):
    """Return the residue of a polynomial by a modulus of a power of at most 30."""
    check_both(p, modulus, polynomial)
    return residue_by(p, modulus, polynomial)


def how_many_with(p, modulus, number):
    """Return how many free rests by a modulus have a number as their residue."""
    check_modulus(p, modulus)
    if not is_whole(number) or not 1 <= number < p:
        raise InvalidNumber(number)
    counts = [p - 1] + [times for _, times in factors_of(p, modulus)]
    shared = max([divisor for divisor in range(1, p) if all([count % divisor == 0 for count in counts])])
    powers = [number_power(one, shared) % p for one in range(1, p)]
    if number not in powers:
        return 0
    return shared * how_many_free_by(p, modulus) // (p - 1)


def check_both(p, modulus, polynomial):
    """Raise an error unless all arguments are what they are called, the modulus of a power of at most 30."""
    check_p(p)
    if not is_monic(p, modulus, GREATEST_LONG_POWER):
        raise InvalidModulus(modulus)
    check_polynomial(p, polynomial)


def residue_by(p, modulus, polynomial):
    """Return the residue of a polynomial by a modulus of whatever power."""
    _, _, last, number = ([start_of(modulus, polynomial)] + steps_of(p, modulus, polynomial))[-1]
    return number if last == [1] else 0


def start_of(modulus, polynomial):
    """Return what a walk is made from, as a tuple of a walk but without a word."""
    return "", modulus, polynomial, 1


def step_of(p, word, ahead):
    """Return the tuple that a word makes of the one ahead of it in a walk, or None if it makes none."""
    _, modulus, polynomial, number = ahead
    if word == "rest":
        return word, list(modulus), remainder(p, polynomial, modulus), number
    if word == "lead" and polynomial != []:
        head = polynomial[-1]
        # The residue of a number: the number taken as many times as a factor as the power of the modulus.
        factor = number_power(head, len(modulus) - 1)
        return word, list(modulus), scaled(p, polynomial, number_opposite(p, head)), number * factor % p
    if word == "turn" and len(polynomial) > 1 and polynomial[-1] == 1:
        both_odd = len(modulus) % 2 == 0 and len(polynomial) % 2 == 0
        return word, list(polynomial), list(modulus), (p - number if both_odd else number)
    return None


def steps_of(p, modulus, polynomial):
    """Return a walk that ends: with each three steps at most, the power of the modulus falls."""
    steps = []
    ahead = start_of(modulus, polynomial)
    word = _word_behind(ahead)
    while word is not None:
        ahead = step_of(p, word, ahead)
        steps.append(ahead)
        word = _word_behind(ahead)
    return steps


def _word_behind(ahead):
    """Return the word that takes a walk nearer to its end, or None if it ends here."""
    _, modulus, polynomial, _ = ahead
    if polynomial in ([], [1]):
        return None
    if len(polynomial) >= len(modulus):
        return "rest"
    return "turn" if polynomial[-1] == 1 else "lead"
