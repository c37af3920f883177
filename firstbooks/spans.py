"""Spans: all sums of some of the numbers that are added."""

from firstbooks.errors import Beyond, NoNumber
from firstbooks.helper import many_below, sum_at
from firstbooks.marks import marks, number_of, top


class Span:
    """All sums of some of the numbers that are added one by one."""

    def __init__(self, numbers=()):
        # Pairs (row, places), rising: the row is the sum of the numbers added at the marks of places.
        self._pairs = []
        self._added = 0
        for number in numbers:
            self.add(number)

    def add(self, number):
        """Add a number, and tell whether it was new to the span."""
        row, places = self._reduced(number, 1 << self._added)
        self._added = self._added + 1
        if row == 0:
            return False
        pairs = [(row, places)]
        for old, made in self._pairs:
            # The new row's top mark is to be a mark of no other row.
            if (old >> top(row)) & 1:
                pairs.append((old ^ row, made ^ places))
            else:
                pairs.append((old, made))
        self._pairs = sorted(pairs)
        return True

    def rank(self):
        """Tell how many numbers were new."""
        return len(self._pairs)

    def holds(self, number):
        """Tell whether a number is one of the span."""
        return self.rest(number) == 0

    def nth(self, place):
        """Tell the number at a place, rising, from 0 on."""
        if place >= 1 << self.rank():
            raise Beyond(place)
        return sum_at(self.rows(), place)

    def order_of(self, number):
        """Tell how many numbers of the span are less than one of it."""
        if not self.holds(number):
            raise NoNumber(number)
        # Each row's top mark is a mark of just those sums that have the row.
        return number_of([place for place, row in enumerate(self.rows()) if (number >> top(row)) & 1])

    def below(self, bound):
        """Tell how many numbers of the span are less than a bound."""
        return many_below(0, self.rows(), bound)

    def rows(self):
        """Tell the rows, rising: each one's top mark is a mark of no other one."""
        return [row for row, places in self._pairs]

    def rest(self, number):
        """Tell the least number that differs from a number by one of the span."""
        return self._reduced(number, 0)[0]

    def made_of(self, number):
        """Tell places of added numbers whose sum is a number, None where there are none."""
        left, places = self._reduced(number, 0)
        return marks(places) if left == 0 else None

    def _reduced(self, number, places):
        """Tell a number without the rows' top marks, and places with those of the rows that were summed."""
        left = number
        for row, made in self._pairs:
            if (number >> top(row)) & 1:
                left = left ^ row
                places = places ^ made
        return left, places
