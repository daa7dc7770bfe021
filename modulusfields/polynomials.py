"""What all modules need of numbers modulo `p` and of polynomials of `T`.

A polynomial is a list of numbers from 0 to `p - 1`, the one at the place `k` standing at `T ** k`,
the last one not 0. Nothing here is checked but by the functions that tell whether a value is something.
Each function returns new lists.
"""

GREATEST_POWER = 60


def is_whole(value):
    """Return whether a value is a whole number: a Boolean is none."""
    return isinstance(value, int) and not isinstance(value, bool)


def is_number(p, value):
    """Return whether a value is a whole number from 0 to `p - 1`."""
    return is_whole(value) and 0 <= value < p


def is_polynomial(p, value, greatest):
    """Return whether a value is a polynomial that is nought or has at most the power `greatest`."""
    if not isinstance(value, list) or len(value) > greatest + 1:
        return False
    if not all([is_number(p, item) for item in value]):
        return False
    return value == [] or value[-1] != 0


def number_power(number, count):
    """Return what comes of a whole number taken `count` times as a factor."""
    found = 1
    for _ in range(count):
        found *= number
    return found


def number_opposite(p, number):
    """Return the number whose product with this one, which is not 0, is 1."""
    found = 1
    while found * number % p != 1:
        found += 1
    return found


def trimmed(numbers):
    """Return the numbers without the zeros at their end."""
    many = len(numbers)
    while many > 0 and numbers[many - 1] == 0:
        many -= 1
    return numbers[:many]


def added(p, one, other):
    """Return the sum of two polynomials."""
    numbers = one + [0] * (len(other) - len(one))
    for place, number in enumerate(other):
        numbers[place] = (numbers[place] + number) % p
    return trimmed(numbers)


def difference(p, one, other):
    """Return the one polynomial less the other one."""
    numbers = one + [0] * (len(other) - len(one))
    for place, number in enumerate(other):
        numbers[place] = (numbers[place] - number) % p
    return trimmed(numbers)


def scaled(p, polynomial, number):
    """Return a polynomial times a number that is not 0."""
    return [item * number % p for item in polynomial]


def multiplied(p, one, other):
    """Return the product of two polynomials."""
    if one == [] or other == []:
        return []
    sums = [0] * (len(one) + len(other) - 1)
    for place, number in enumerate(one):
        # What is taken many times as a factor has mostly zeros.
        if number != 0:
            end = place + len(other)
            sums[place:end] = [found + number * item for found, item in zip(sums[place:end], other)]
    return [number % p for number in sums]


def spread(polynomial, step):
    """Return a polynomial with `T ** step` in the place of `T`.

    For a power of `p` this is the polynomial taken `step` times as a factor.
    """
    numbers = [0] * ((len(polynomial) - 1) * step + 1)
    for place, number in enumerate(polynomial):
        numbers[place * step] = number
    return numbers


def divided(p, polynomial, divisor):
    """Return the quotient and what is left when a polynomial is divided by one that is not nought."""
    left = list(polynomial)
    turned = number_opposite(p, divisor[-1])
    quotient = [0] * (len(left) - len(divisor) + 1)
    for place in reversed(range(len(quotient))):
        number = left[place + len(divisor) - 1] * turned % p
        quotient[place] = number
        for further, item in enumerate(divisor):
            left[place + further] = (left[place + further] - number * item) % p
    return quotient, trimmed(left)


def taken_out(p, polynomial, factor):
    """Return how often a factor divides a polynomial that is not nought, and what is left without it."""
    times = 0
    without = polynomial
    quotient, left = divided(p, without, factor)
    while left == []:
        times += 1
        without = quotient
        quotient, left = divided(p, without, factor)
    return times, without


def remainder(p, polynomial, modulus):
    """Return the rest of a polynomial by a modulus."""
    _, left = divided(p, polynomial, modulus)
    return left


def common_factor(p, one, other):
    """Return the greatest monic common factor of two polynomials that are not both nought."""
    ahead, now = one, other
    while now != []:
        ahead, now = now, remainder(p, ahead, now)
    return scaled(p, ahead, number_opposite(p, ahead[-1]))


def product_by(p, modulus, one, other):
    """Return the rest of the product of two polynomials."""
    return remainder(p, multiplied(p, one, other), modulus)


def power_by(p, modulus, polynomial, count):
    """Return the rest of a polynomial taken `count` times as a factor, by repeated squaring."""
    found = [1]
    square = remainder(p, polynomial, modulus)
    left = count
    while left > 0:
        if left % 2 == 1:
            found = product_by(p, modulus, found, square)
        square = product_by(p, modulus, square, square)
        left //= 2
    return found


def opposite_by(p, modulus, polynomial):
    """Return the rest whose product with a polynomial, which has no common factor with the modulus, is 1."""
    ahead, now = modulus, polynomial
    # By the modulus, `now` always is the polynomial handed in times `now_times`.
    ahead_times, now_times = [], [1]
    while len(now) > 1:
        quotient, left = divided(p, ahead, now)
        ahead_times, now_times = now_times, difference(p, ahead_times, multiplied(p, quotient, now_times))
        ahead, now = now, left
    return remainder(p, scaled(p, now_times, number_opposite(p, now[0])), modulus)


def number_lists(p, length):
    """Return all lists of so many numbers, in order."""
    found = [[]]
    for _ in range(length):
        found = [numbers + [number] for numbers in found for number in range(p)]
    return found


def monics_of(p, power):
    """Return all monic polynomials of a power, in order."""
    return [numbers + [1] for numbers in number_lists(p, power)]


def rests_below(p, power):
    """Return all polynomials that are nought or have a lower power, in order."""
    # Lists of one length stay in order when the zeros at their end fall away: nothing is less than 0.
    return [trimmed(numbers) for numbers in number_lists(p, power)]
