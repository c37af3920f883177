"""A house of bars: which book takes which number."""

from firstbooks.errors import BadBar, NoBar, Twice
from firstbooks.helper import book_by, crosswise, homes_by, is_bar, new_by


class House:
    """Bars that are put in and taken out, and the books that follow from them."""

    def __init__(self, bars=()):
        self._bars = []
        # The homes are worked out when they are asked for, None until then.
        self._homes = None
        for bar in bars:
            self.put(bar)

    def __eq__(self, other):
        return isinstance(other, House) and self._bars == other._bars

    def __len__(self):
        return len(self._bars)

    def put(self, bar):
        """Put a bar in."""
        if not is_bar(bar):
            raise BadBar(bar)
        if bar in self._bars:
            raise Twice(bar)
        self._bars = sorted([*self._bars, bar])
        self._homes = None

    def take(self, bar):
        """Take a bar out."""
        # True and 1.0 are alike to 1 for a list, so the kind is asked first.
        if not is_bar(bar) or bar not in self._bars:
            raise NoBar(bar)
        self._bars.remove(bar)
        self._homes = None

    def bars(self):
        """Tell the bars, rising."""
        return list(self._bars)

    def sees(self, number, other):
        """Tell whether the sum of two numbers is a bar."""
        return (number ^ other) in self._bars

    def book_of(self, number):
        """Tell the book into which a number goes."""
        return book_by(self._low_homes(), number)

    def home(self, power):
        """Tell the book of the number 2 ** power."""
        homes = self._low_homes()
        return homes[power] if power < len(homes) else 0

    def height(self):
        """Tell one more than the greatest mark of the bars, 0 without bars."""
        return len(self._low_homes())

    def new(self):
        """Tell the powers whose homes are no books of lesser numbers, rising."""
        return new_by(self._low_homes())

    def books(self):
        """Tell how many books are met."""
        return 1 << len(self.new())

    def checks(self):
        """Tell for each mark of books the number of the powers whose homes have it."""
        return crosswise(self._low_homes(), len(self.new()))

    def _low_homes(self):
        """Tell the homes of the powers below the height; not to be changed."""
        if self._homes is None:
            self._homes = homes_by(self._bars)
        return self._homes
