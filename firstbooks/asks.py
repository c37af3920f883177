"""Asks: which lists of numbers tell houses apart by their books."""

from firstbooks.helper import are_rising, is_list, is_number, is_tuple_of
from firstbooks.marks import marks, top
from firstbooks.spans import Span


def tells_apart(numbers, powers):
    """Tell whether a list of numbers tells houses of bars below 2 ** powers apart, with a reason."""
    span = _span(numbers, powers)
    free = _free(span, powers)
    if not free:
        return "apart", [span.made_of(1 << power) for power in range(powers)]
    # A row has no other row's top mark, so it meets this number at the free mark and at its own top, or nowhere.
    number = 1 << free[0]
    for row in span.rows():
        if row & (1 << free[0]):
            number = number + (1 << top(row))
    return "alike", number


def shows_asks(numbers, powers, paper):
    """Tell whether a thing of any kind is such a reason."""
    if not is_tuple_of(paper, 2):
        return False
    word, reason = paper
    if word == "apart":
        return _makes_powers(numbers, powers, reason)
    return word == "alike" and _tells_nothing(numbers, powers, reason)


def fewest_more(numbers, powers):
    """Tell the fewest numbers below 2 ** powers that with a list of numbers tell houses apart, rising."""
    return [1 << power for power in _free(_span(numbers, powers), powers)]


def _low(numbers, powers):
    """Tell the numbers without the marks from the powers on."""
    # In a house of bars below 2 ** powers such marks change no book.
    return [number & ((1 << powers) - 1) for number in numbers]


def _span(numbers, powers):
    """Tell the span of a list of numbers."""
    return Span(_low(numbers, powers))


def _free(span, powers):
    """Tell the powers that are the top mark of no row, rising."""
    tops = [top(row) for row in span.rows()]
    return [power for power in range(powers) if power not in tops]


def _makes_powers(numbers, powers, rows):
    """Tell whether a thing is a list of the places whose numbers come to each power's number."""
    if not is_list(rows) or len(rows) != powers:
        return False
    low = _low(numbers, powers)
    return all([_makes(low, places, 1 << power) for power, places in enumerate(rows)])


def _makes(numbers, places, number):
    """Tell whether a thing is a list of unlike places, rising, whose numbers come to a number."""
    if not is_list(places) or not all([is_number(place) and place < len(numbers) for place in places]):
        return False
    total = 0
    for place in places:
        total = total ^ numbers[place]
    return are_rising(places) and total == number


def _tells_nothing(numbers, powers, thing):
    """Tell whether a thing is a number that has an even number of marks together with each one of a list."""
    if not is_number(thing) or thing == 0 or thing >= 1 << powers:
        return False
    return all([len(marks(number & thing)) % 2 == 0 for number in numbers])
