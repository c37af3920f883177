"""The refusals, each straight under the class of Python that it is most like."""


class BadBar(ValueError):
    """A thing that is no bar."""

    def __init__(self, bar):
        ValueError.__init__(self, "a bar is a number from 1 on, below 2 ** 190")
        self.bar = bar


class BadMoment(ValueError):
    """A thing that is no moment."""

    def __init__(self, moment):
        ValueError.__init__(self, "a moment is a whole number from 0 to 10 ** 12")
        self.moment = moment


class BadPlaces(ValueError):
    """A thing that is no rising list of places by which a house can be raised."""


class BadPrime(ValueError):
    """A thing that is no prime of length."""

    def __init__(self, prime):
        ValueError.__init__(self, "a prime from 3 to 97 is asked for")
        self.prime = prime


class BadSigns(ValueError):
    """A thing that is no list of signs, or of no book's halves."""


class BadWord(ValueError):
    """A thing that can't be the next word of an order, by its place."""

    def __init__(self, place):
        ValueError.__init__(self, "the word at this place can't be the next one")
        self.place = place


class NoAsk(ValueError):
    """A thing that is no row for a desk."""

    def __init__(self, row):
        ValueError.__init__(self, "this is no row for a desk")
        self.row = row


class Unread(ValueError):
    """A row that can't be read."""

    def __init__(self, row):
        ValueError.__init__(self, "this row can't be read")
        self.row = row


class NoBar(KeyError):
    """A thing that is no bar of the house."""

    def __init__(self, bar):
        KeyError.__init__(self, "this is no bar of the house")
        self.bar = bar


class NoEntry(KeyError):
    """A thing that is no moment of an entry."""

    def __init__(self, moment):
        KeyError.__init__(self, "no entry has this moment")
        self.moment = moment


class NoNumber(KeyError):
    """A number that isn't held."""

    def __init__(self, number):
        KeyError.__init__(self, "this number isn't held")
        self.number = number


class NoBook(LookupError):
    """A thing that is no book that is met."""

    def __init__(self, book):
        LookupError.__init__(self, "this is no book that is met")
        self.book = book


class NoPair(LookupError):
    """A thing that is no pair that is met."""

    def __init__(self, pair):
        LookupError.__init__(self, "this is no pair that is met")
        self.pair = pair


class NoStep(LookupError):
    """A thing that is no step of the number for the book."""

    def __init__(self, step):
        LookupError.__init__(self, "this is no step of the number for the book")
        self.step = step


class SameMoment(LookupError):
    """A moment that has an entry already."""

    def __init__(self, moment):
        LookupError.__init__(self, "this moment has an entry already")
        self.moment = moment


class Twice(LookupError):
    """A bar that is in already."""

    def __init__(self, bar):
        LookupError.__init__(self, "this bar is in already")
        self.bar = bar


class Beyond(IndexError):
    """A place behind the last one."""

    def __init__(self, place):
        IndexError.__init__(self, "there is nothing at this place any more")
        self.place = place


class CantBe(RuntimeError):
    """Wished homes that no house has, by the first place that can't be."""

    def __init__(self, place):
        RuntimeError.__init__(self, "no house has the home wished at this place")
        self.place = place


class Close(RuntimeError):
    """A lift that is less than the height of the house below."""

    def __init__(self, lift):
        RuntimeError.__init__(self, "the lift is less than the height")
        self.lift = lift


class Low(RuntimeError):
    """Fewer powers than the height of the house."""

    def __init__(self, powers):
        RuntimeError.__init__(self, "the powers are fewer than the height")
        self.powers = powers


class TooMany(ArithmeticError):
    """More than there may be."""

    def __init__(self, many):
        ArithmeticError.__init__(self, "there would be too many")
        self.many = many
