"""A town: bars that are turned in and out at moments."""

from firstbooks.apart import parts
from firstbooks.errors import BadBar, BadMoment, NoEntry, SameMoment
from firstbooks.helper import book_by, homes_by, is_bar, is_moment
from firstbooks.house import House


class Town:
    """Entries, each of which turns a bar at its moment."""

    def __init__(self):
        self._turned = {}
        # The homes behind each entry are worked out when they are asked for, None until then.
        self._homes = None

    def __len__(self):
        return len(self._turned)

    def turn(self, moment, bar):
        """Tell the town of an entry."""
        if not is_moment(moment):
            raise BadMoment(moment)
        if moment in self._turned:
            raise SameMoment(moment)
        if not is_bar(bar):
            raise BadBar(bar)
        self._turned[moment] = bar
        self._homes = None

    def drop(self, moment):
        """Drop the entry of a moment."""
        self._refuse_unknown(moment)
        del self._turned[moment]
        self._homes = None

    def entries(self, *, upto=None):
        """Tell the entries up to a moment, or all, rising."""
        return [(moment, self._turned[moment]) for moment in sorted(self._turned) if upto is None or moment <= upto]

    def bars(self, *, upto=None):
        """Tell the bars that are in up to a moment, or behind all entries, rising."""
        inside = {}
        for moment, bar in self.entries(upto=upto):
            if bar in inside:
                del inside[bar]
            else:
                inside[bar] = moment
        return sorted(inside)

    def house(self, *, upto=None):
        """Tell a house of the bars that are in up to a moment, or behind all entries."""
        return House(self.bars(upto=upto))

    def moves(self, number, *, since=None, upto=None):
        """Tell the entries behind a moment and up to another at which a number's book changes, with both books."""
        told = []
        before = 0
        for moment, homes in self._low_homes():
            book = book_by(homes, number)
            asked = (since is None or moment > since) and (upto is None or moment <= upto)
            if asked and book != before:
                told.append((moment, before, book))
            before = book
        return told

    def moved(self, moment):
        """Tell the least number that an entry moves, None where it moves none."""
        self._refuse_unknown(moment)
        # Moments are whole numbers, so the house ahead of an entry is that up to the moment less one.
        return parts(self.house(upto=moment - 1), self.house(upto=moment))

    def comes(self, number, book):
        """Tell the least moment at which a number comes to be in a book, None where it never does."""
        for moment, _, behind in self.moves(number):
            if behind == book:
                return moment
        return None

    def same(self, one, other):
        """Tell whether the houses up to two moments have the same bars, and whether they are alike."""
        house = self.house(upto=one)
        beside = self.house(upto=other)
        return house == beside, parts(house, beside) is None

    def _low_homes(self):
        """Tell for each entry, rising, its moment and the homes of the powers behind it; not to be changed."""
        if self._homes is None:
            self._homes = [(moment, homes_by(self.bars(upto=moment))) for moment in sorted(self._turned)]
        return self._homes

    def _refuse_unknown(self, moment):
        """Refuse a thing of any kind that is no moment of an entry."""
        if not is_moment(moment) or moment not in self._turned:
            raise NoEntry(moment)
