"""Other orders of going: by the sums of words."""

from firstbooks.errors import BadWord, Beyond, NoNumber
from firstbooks.helper import is_bar, sum_at
from firstbooks.house import House
from firstbooks.marks import number_of
from firstbooks.spans import Span


class Order:
    """Words of which none is the sum of others; their sums come one by one, by their indexes."""

    def __init__(self, words):
        self._words = []
        self._span = Span()
        for place, word in enumerate(words):
            # A word is what a bar is: a number from 1 on, below 2 ** 190.
            if not is_bar(word) or self._span.holds(word):
                raise BadWord(place)
            self._span.add(word)
            self._words.append(word)

    def __len__(self):
        return len(self._words)

    def word(self, index):
        """Tell the sum of the words at the marks of an index."""
        if index >= 1 << len(self._words):
            raise Beyond(index)
        return sum_at(self._words, index)

    def index_of(self, number):
        """Tell the index of a number, None where it is no sum of words."""
        places = self._span.made_of(number)
        return None if places is None else number_of(places)

    def led(self, house):
        """Tell the house of the indexes of those bars of a house that have one."""
        indexes = [self.index_of(bar) for bar in house.bars()]
        return House([index for index in indexes if index is not None])

    def book_of(self, house, number):
        """Tell the book of a number when the numbers come by this order."""
        index = self.index_of(number)
        if index is None:
            raise NoNumber(number)
        # Two numbers differ by a bar where their indexes differ by the bar's index.
        return self.led(house).book_of(index)
