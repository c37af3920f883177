"""Houses beside one another, and raised ones."""

from firstbooks.errors import BadPlaces, Close
from firstbooks.helper import are_marks, is_list
from firstbooks.house import House
from firstbooks.marks import marks, number_of


def beside(one, other, lift):
    """Tell the house of the bars of the first and of the second's, lifted by a number of marks."""
    if lift < one.height():
        raise Close(lift)
    # The bars are put in rising, so of those that are none the least is refused.
    return House([*one.bars(), *[bar << lift for bar in other.bars()]])


def raised(house, places):
    """Tell the house of the bars with each mark i of them raised to the i-th of the places."""
    if not is_list(places) or not are_marks(places):
        raise BadPlaces("a rising list of places from 0 to 189 is asked for")
    if len(places) < house.height():
        raise BadPlaces("there are fewer places than the height")
    return House([number_of([places[mark] for mark in marks(bar)]) for bar in house.bars()])
