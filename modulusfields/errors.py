"""The errors of the package. The field `value` holds the argument that is refused, or the number that is too great."""


class ModulusError(ValueError):
    """The base of all errors of the package."""


class InvalidPrime(ModulusError):
    """`p` is not one of the primes of the package."""

    def __init__(self, value=None):
        super().__init__("p has to be 3, 5 or 7")
        self.value = value


class InvalidPolynomial(ModulusError):
    """A value is no polynomial such as is asked for."""

    def __init__(self, value=None):
        super().__init__("a polynomial is asked for: a list of numbers from 0 to p - 1, the last one not 0")
        self.value = value


class InvalidModulus(ModulusError):
    """A value is no modulus, or no prime, such as is asked for."""

    def __init__(self, value=None):
        super().__init__("a modulus is asked for: a monic polynomial of a power within its bounds")
        self.value = value


class InvalidNumber(ModulusError):
    """A value is no whole number such as is asked for."""

    def __init__(self, value=None):
        super().__init__("a whole number within its bounds is asked for")
        self.value = value


class InvalidRest(ModulusError):
    """A value is no rest such as is asked for."""

    def __init__(self, value=None):
        super().__init__("a rest is asked for: a polynomial that is nought or of lower power, perhaps a free one")
        self.value = value


class InvalidList(ModulusError):
    """A value is no list such as is asked for."""

    def __init__(self, value=None):
        super().__init__("a list of things of one kind is asked for")
        self.value = value


class InvalidGroup(ModulusError):
    """A value is no group by the modulus."""

    def __init__(self, value=None):
        super().__init__("a group is asked for: a list, in order, of free rests that has 1 and all its products")
        self.value = value


class TooMany(ModulusError):
    """There are more things than are returned as a list; `value` tells how many."""

    def __init__(self, value=None):
        super().__init__("there are too many of them to be listed")
        self.value = value
