"""Length: book 0 takes each number that makes no prime number of evenly spaced ones."""

from firstbooks.errors import BadPrime
from firstbooks.helper import is_number, read_by, signs_by

PRIMES = (3, 5, 7, 11, 13, 17, 19, 23, 29, 31, 37, 41, 43, 47, 53, 59, 61, 67, 71, 73, 79, 83, 89, 97)


def is_taken(prime, number):
    """Tell whether a number is taken."""
    _refuse_other(prime)
    return _takes(prime, number)


def long_step(prime, number):
    """Tell a step by which a number is left, None of one that is taken."""
    _refuse_other(prime)
    step = read_by(prime, [1 if sign == prime - 1 else 0 for sign in signs_by(prime, number)])
    return step if step else None


def is_long_step(prime, number, step):
    """Tell whether a thing of any kind is a step by which a number is left."""
    _refuse_other(prime)
    if not is_number(step) or step == 0 or (prime - 1) * step > number:
        return False
    return all([_takes(prime, number - times * step) for times in range(1, prime)])


def long_nth(prime, place):
    """Tell the taken number at a place, rising, from 0 on."""
    _refuse_other(prime)
    # The taken numbers are those of all signs but the greatest.
    return read_by(prime, signs_by(prime - 1, place))


def long_count(prime, below):
    """Tell how many taken numbers are less than a bound."""
    _refuse_other(prime)
    signs = signs_by(prime, below)
    if prime - 1 in signs:
        # Behind the first greatest sign any signs of taken numbers are below the bound's, as with noughts there.
        known = signs.index(prime - 1) + 1
        signs = signs[:known] + [0] * (len(signs) - known)
    return read_by(prime - 1, signs)


def _refuse_other(prime):
    """Refuse a thing of any kind that is no prime from 3 to 97."""
    if not is_number(prime) or prime not in PRIMES:
        raise BadPrime(prime)


def _takes(prime, number):
    """Tell whether a number has no greatest sign when it is written by a prime."""
    return prime - 1 not in signs_by(prime, number)
