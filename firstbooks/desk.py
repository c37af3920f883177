"""A desk: a town that is told rows and answers with texts."""

from firstbooks.errors import NoAsk
from firstbooks.even import even_book
from firstbooks.helper import bar_in, is_moment, low_homes, moment_in, number_in
from firstbooks.long import long_step
from firstbooks.papers import why
from firstbooks.shelf import count, nth, place
from firstbooks.steps import step_least
from firstbooks.town import Town


def _turn(town, moment, bar):
    """Turn a bar."""
    town.turn(moment, bar)
    return ["ok"]


def _drop(town, moment):
    """Drop an entry."""
    town.drop(moment)
    return ["ok"]


def _moves(town, number):
    """Tell for each move the moment and the new book."""
    told = []
    for moment, _, behind in town.moves(number):
        told.extend([moment, behind])
    return told


def _book(house, number):
    """Tell the book of a number."""
    return [house.book_of(number)]


def _why(house, number):
    """Tell the book of a number, and for each lesser book a bar."""
    book, rows = why(house, number)
    return [book] + [bar for lesser, bar in rows]


def _nth(house, book, at):
    """Tell the number at a place of a book."""
    return [nth(house, book, at)]


def _count(house, book, below):
    """Tell how many numbers of a book are less than a bound."""
    return [count(house, book, below)]


def _place(house, number):
    """Tell how many of a number's book go ahead of it."""
    return [place(house, number)]


def _homes(house):
    """Tell the homes of the powers below the height."""
    return low_homes(house)


def _even(number):
    """Tell the book of a number by evenness."""
    return [even_book(number)]


def _step(number, book):
    """Tell the least step of a number for a book, if there is one."""
    least = step_least(number, book)
    return [] if least is None else [least]


def _long(prime, number):
    """Tell a step by which a number is left by length, or that it is taken."""
    step = long_step(prime, number)
    return ["taken"] if step is None else [step]


OF_TOWNS = {"turn": _turn, "drop": _drop, "moves": _moves}
OF_HOUSES = {"book": _book, "why": _why, "nth": _nth, "count": _count, "place": _place, "homes": _homes}
OF_NUMBERS = {"even": _even, "step": _step, "long": _long}

# How many numbers stand behind each word but `turn`.
SIZES = {
    "drop": 1, "moves": 1, "book": 1, "why": 1, "nth": 2, "count": 2, "place": 1, "homes": 0,
    "even": 1, "step": 2, "long": 2,
}


class Desk:
    """A town that is told rows and answers with texts."""

    def __init__(self):
        self._town = Town()

    def say(self, row):
        """Answer a row, refused where a thing of any kind is none."""
        ask = _read(row)
        if ask is None:
            raise NoAsk(row)
        word, numbers, upto = ask
        if word in OF_TOWNS:
            answer = OF_TOWNS[word]
            return _text(answer(self._town, *numbers))
        if word in OF_HOUSES:
            answer = OF_HOUSES[word]
            house = self._town.house(upto=upto)
            return _text(answer(house, *numbers))
        answer = OF_NUMBERS[word]
        return _text(answer(*numbers))


def _text(told):
    """Write what is told as words."""
    return " ".join([str(thing) for thing in told]) if told else "none"


def _read(row):
    """Tell a row's word, its numbers and the moment up to which it asks, None where a thing is no row."""
    if not isinstance(row, str):
        return None
    words = row.split(" ")
    word = words[0]
    if word == "turn":
        numbers = _turn_in(words[1:])
        return None if numbers is None else (word, numbers, None)
    upto = None
    if word in OF_HOUSES and words[-2:-1] == ["at"]:
        upto = moment_in(words[-1])
        if upto is None:
            return None
        words = words[:-2]
    numbers = [number_in(other) for other in words[1:]]
    if None in numbers or len(numbers) != SIZES.get(word, -1):
        return None
    if word == "drop" and not is_moment(numbers[0]):
        return None
    return word, numbers, upto


def _turn_in(words):
    """Tell the moment and the bar that words write, None where they write none."""
    moment = moment_in(words[0]) if words else None
    bar = bar_in(words[1:])
    return None if moment is None or bar is None else [moment, bar]
