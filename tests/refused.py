"""What the tests of refusals share: each function is called with one wrong argument, then with more of them."""

from copy import deepcopy

from tests.support import PRIMES


class RefusalChecks:
    """Checks for a test case whose `table` tells, for `p`, what is refused.

    It is a list of tuples: a function, arguments that are right, and for the first so many of these places the
    error and the list of the values that are refused there.
    """

    def refused(self, function, arguments, error, value):
        with self.assertRaises(error, msg=(function.__name__, arguments)) as caught:
            function(*arguments)
        self.assertIs(type(caught.exception), error, (function.__name__, arguments))
        self.assertIs(caught.exception.value, value)

    def test_right_arguments_are_taken(self):
        for p in PRIMES:
            for function, arguments, _ in self.table(p):
                function(*arguments)

    def test_each_wrong_argument(self):
        for p in PRIMES:
            for function, arguments, places in self.table(p):
                for place, (error, values) in enumerate(places):
                    for value in values:
                        wrong = arguments[:place] + [value] + arguments[place + 1:]
                        kept = deepcopy(wrong)
                        self.refused(function, wrong, error, value)
                        self.assertEqual(repr(wrong), repr(kept))

    def test_first_wrong_argument_first(self):
        for p in PRIMES:
            for function, arguments, places in self.table(p):
                for place, (error, values) in enumerate(places):
                    for value in values:
                        wrong = arguments[:place] + [value] + [None] * (len(arguments) - place - 1)
                        self.refused(function, wrong, error, value)
