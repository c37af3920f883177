"""Papers: of a number's book a bar for each lesser book, of a house the books of its powers."""

from firstbooks.helper import is_list, is_number, is_same, is_tuple_of, keepers
from firstbooks.house import House


def why(house, number):
    """Tell a paper of a number: its book, and for each lesser one a bar that leads there."""
    book = house.book_of(number)
    found = {}
    for bar in _lowering(house, number):
        found[house.book_of(number ^ bar)] = bar
    return book, [(lesser, found[lesser]) for lesser in range(book)]


def shows_why(house, number, paper):
    """Tell whether a thing of any kind is a paper of a number."""
    if not is_tuple_of(paper, 2):
        return False
    told, rows = paper
    book = house.book_of(number)
    if not is_same(told, book) or not is_list(rows) or len(rows) != book:
        return False
    return all([_is_row(house, number, lesser, row) for lesser, row in enumerate(rows)])


def barred_by(house, number, book):
    """Tell how many bars lead from a number to lesser ones that lie in a book."""
    return len([bar for bar in _lowering(house, number) if house.book_of(number ^ bar) == book])


def whole(house):
    """Tell a paper of a house: its powers with their homes, and a bar for each lesser book."""
    table = keepers(house)
    rows = []
    for power in sorted(table):
        home = house.home(power)
        rows.append((power, home, [table[power][book][0] for book in range(home)]))
    return rows


def shows_whole(bars, paper):
    """Tell whether a thing of any kind is a paper of the house of these bars."""
    house = House(bars)
    table = keepers(house)
    if not is_list(paper) or len(paper) != len(table):
        return False
    powers = sorted(table)
    return all([_is_power(power, house.home(power), table[power], row) for power, row in zip(powers, paper)])


def _lowering(house, number):
    """Tell the bars whose sum with a number is less than the number."""
    return [bar for bar in house.bars() if number ^ bar < number]


def _is_row(house, number, lesser, row):
    """Tell whether a thing is a row of a number's paper for this lesser book."""
    if not is_tuple_of(row, 2):
        return False
    told, bar = row
    if not is_same(told, lesser) or not is_number(bar):
        return False
    other = number ^ bar
    return house.sees(number, other) and other < number and house.book_of(other) == lesser


def _is_power(power, home, kept, row):
    """Tell whether a thing is a row of a house's paper for this power; kept are its bars by their books."""
    if not is_tuple_of(row, 3):
        return False
    told, book, picked = row
    if not is_same(told, power) or not is_same(book, home) or not is_list(picked) or len(picked) != home:
        return False
    return all([is_number(bar) and bar in kept[lesser] for lesser, bar in enumerate(picked)])
