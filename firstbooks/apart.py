"""Two houses: which numbers they tell apart, and the numbers of a pair of books."""

from firstbooks.errors import NoPair
from firstbooks.helper import is_number, is_tuple_of, many_below, sum_at
from firstbooks.marks import number_of
from firstbooks.spans import Span


class Codes:
    """Codes of numbers that add as the numbers do: told of the powers 0, 1, .., 0 for all greater ones."""

    def __init__(self, codes):
        self._codes = list(codes)
        # The powers whose codes are no sums of those of lesser powers, and the span of their codes.
        self._new = []
        self._span = Span()
        for power, code in enumerate(self._codes):
            if not self._span.holds(code):
                self._span.add(code)
                self._new.append(power)

    def met(self):
        """Tell how many codes some number has."""
        return 1 << len(self._new)

    def least(self, code):
        """Tell the least number of a code, None where no number has it."""
        places = self._span.made_of(code)
        if places is None:
            return None
        return number_of([self._new[place] for place in places])

    def nth(self, code, place):
        """Tell the number at a place of a code that is met, rising, from 0 on."""
        # Beside the new powers there are as many others as the place has marks and noughts.
        return self.least(code) ^ sum_at(self._rows(len(self._new) + place.bit_length()), place)

    def how_many(self, code, below):
        """Tell how many numbers of a code that is met are less than a bound."""
        return many_below(self.least(code), self._rows(below.bit_length()), below)

    def _rows(self, powers):
        """Tell the numbers of code 0, rising, that have one power that isn't new, one of the first so many."""
        # A number's other marks are free, and those at the new powers follow from its code.
        rows = []
        for power in range(powers):
            if power not in self._new:
                code = self._codes[power] if power < len(self._codes) else 0
                rows.append((1 << power) ^ self.least(code))
        return rows


def parts(one, other):
    """Tell the least number that has unlike books in two houses, None where there is none."""
    # The book of a sum is the sum of the books, so the least such number is a power.
    for power, (home, beside) in enumerate(_home_pairs(one, other)):
        if home != beside:
            return 1 << power
    return None


def unlike(one, other, below):
    """Tell how many numbers below a bound have unlike books in two houses."""
    differences = Codes([home ^ beside for home, beside in _home_pairs(one, other)])
    return below - differences.how_many(0, below)


def pairs_met(one, other):
    """Tell how many pairs of books some number has."""
    return _pair_codes(one, other).met()


def pair_first(one, other, pair):
    """Tell the first number of a pair of books."""
    return pair_nth(one, other, pair, 0)


def pair_nth(one, other, pair, place):
    """Tell the number at a place of a pair of books, rising, from 0 on."""
    codes = _pair_codes(one, other)
    return codes.nth(_code_of(one, other, pair, codes), place)


def pair_count(one, other, pair, below):
    """Tell how many numbers of a pair of books are less than a bound."""
    codes = _pair_codes(one, other)
    return codes.how_many(_code_of(one, other, pair, codes), below)


def _home_pairs(one, other):
    """Tell the homes in both houses of the powers below the greater height, as pairs."""
    height = max(one.height(), other.height())
    return [(one.home(power), other.home(power)) for power in range(height)]


def _pair_codes(one, other):
    """Tell the codes of pairs: the book in the first house above that in the second."""
    # How many books are met is a power of two, so such codes add as the books do.
    books = other.books()
    return Codes([home * books + beside for home, beside in _home_pairs(one, other)])


def _code_of(one, other, pair, codes):
    """Tell the code of a thing of any kind, refused where it is no pair that is met."""
    if not is_tuple_of(pair, 2):
        raise NoPair(pair)
    book, beside = pair
    # A second book that isn't met would run into the first one's marks.
    if not is_number(book) or not is_number(beside) or beside >= other.books():
        raise NoPair(pair)
    code = book * other.books() + beside
    if codes.least(code) is None:
        raise NoPair(pair)
    return code
