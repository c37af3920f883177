"""Bars that matter, and those that don't."""

from firstbooks.errors import BadBar, Low, TooMany
from firstbooks.helper import are_rising, is_bar, is_list, is_number, keepers
from firstbooks.house import House
from firstbooks.marks import top

MOST_POWERS = 12


def turning(house, bar):
    """Tell the first power whose home turning a bar changes, with its new home, or None."""
    if not is_bar(bar):
        raise BadBar(bar)
    turned = House(house.bars())
    if house.sees(bar, 0):
        turned.take(bar)
    else:
        turned.put(bar)
    # A bar keeps only its top mark's power out of a book; greater homes change by this one alone.
    power = top(bar)
    home = turned.home(power)
    return None if home == house.home(power) else (power, home)


def idle_bars(house):
    """Tell the bars that can be taken out, each alone, without changing a book, rising."""
    told = []
    for power, kept in keepers(house).items():
        for book, bars in kept.items():
            if book > house.home(power) or len(bars) > 1:
                told.extend(bars)
    return sorted(told)


def core(house):
    """Tell fewest bars of a house that alone give all numbers their books, rising."""
    return sorted([bars[0] for bars in _choices(house)])


def how_many_cores(house):
    """Tell how many cores a house has."""
    many = 1
    for bars in _choices(house):
        many = many * len(bars)
    return many


def is_core(house, bars):
    """Tell whether a thing of any kind is a core of a house."""
    choices = _choices(house)
    if not is_list(bars) or len(bars) != len(choices):
        return False
    if not all([is_number(bar) for bar in bars]) or not are_rising(bars):
        return False
    # As many unlike bars as there are choices, and one of each: so there are no others.
    return all([any([bar in choice for bar in bars]) for choice in choices])


def how_many_alike(house, powers):
    """Tell how many houses of bars below 2 ** powers have the same homes."""
    if powers < house.height():
        raise Low(powers)
    if powers > MOST_POWERS:
        raise TooMany(powers)
    many = 1
    books = 1
    for power in range(powers):
        home = house.home(power)
        # The numbers below 2 ** power lie evenly in the books that they meet.
        many = many * _ways(home, books, (1 << power) // books)
        if home == books:
            books = books * 2
    return many


def _choices(house):
    """Tell for each power and each book less than its home the bars of which a core has one."""
    told = []
    for power, kept in keepers(house).items():
        for book in range(house.home(power)):
            told.append(kept[book])
    return told


def _ways(home, books, size):
    """Tell how many sets of bars of one top mark make a home, so many bars leading to each book."""
    many = 1
    for book in range(books):
        if book < home:
            many = many * ((1 << size) - 1)
        elif book > home:
            many = many << size
    return many
