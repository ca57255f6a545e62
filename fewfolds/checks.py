"""Whether values are integers, primes, numbers, rows and polynomials."""

from fewfolds.errors import BadPrime

PRIMES = (2, 3, 5, 7)
MOST_ROWS = 8
MOST_POLY_NUMBERS = 60


def is_integer(thing):
    """Whether a value is an integer: a bool is none, though Python takes it for one."""
    return isinstance(thing, int) and not isinstance(thing, bool)


def is_integer_within(thing, least, most):
    """Whether a value is an integer from least to most."""
    return is_integer(thing) and least <= thing and thing <= most


def is_same_integer(thing, number):
    """Whether a value is this integer: True is not 1."""
    return is_integer(thing) and thing == number


def is_prime(thing):
    """Whether a value is one of the four primes."""
    return is_integer(thing) and thing in PRIMES


def check_prime(thing):
    """Raise BadPrime with a value that is none of the four primes."""
    if not is_prime(thing):
        raise BadPrime(thing)


def is_number_by(p, thing):
    """Whether a value is a number by p."""
    return is_integer_within(thing, 0, p - 1)


def are_numbers(p, thing):
    """Whether a value is a tuple of numbers by p."""
    return isinstance(thing, tuple) and all([is_number_by(p, part) for part in thing])


def is_row(p, n, thing):
    """Whether a value is a tuple of n numbers by p."""
    return are_numbers(p, thing) and len(thing) == n


def is_poly_by(p, thing):
    """Whether a value is a polynomial by p, which is known to be a prime."""
    if not are_numbers(p, thing) or len(thing) > MOST_POLY_NUMBERS:
        return False
    return thing == () or thing[-1] != 0


def is_certificate(thing, word, size):
    """Whether a value is a tuple of just this size whose first item is the word."""
    return isinstance(thing, tuple) and len(thing) == size and thing[0] == word
