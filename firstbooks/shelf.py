"""The numbers of a book, found by how many go ahead."""

from firstbooks.helper import first_of, many_below, refuse_unmet, sum_at


def first(house, book):
    """Tell the first number of a book."""
    refuse_unmet(house, book)
    return first_of(house.new(), book)


def nth(house, book, place):
    """Tell the number at a place of a book, rising, from 0 on."""
    start = first(house, book)
    # Beside the new powers there are as many others as the place has marks and noughts.
    rows = _rows(house, len(house.new()) + place.bit_length())
    return start ^ sum_at(rows, place)


def count(house, book, below):
    """Tell how many numbers of a book are less than a bound."""
    start = first(house, book)
    return many_below(start, _rows(house, below.bit_length()), below)


def behind(house, book, number):
    """Tell the least number of a book that is greater than a number."""
    return nth(house, book, count(house, book, number + 1))


def ahead(house, book, number):
    """Tell the greatest number of a book that is less than a number, None where there is none."""
    many = count(house, book, number)
    return nth(house, book, many - 1) if many else None


def place(house, number):
    """Tell how many numbers of a number's book are less than it."""
    return count(house, house.book_of(number), number)


def _rows(house, powers):
    """Tell the numbers of book 0, rising, that have one power that isn't new, one of the first so many."""
    # A number's other marks are free, and those at the new powers follow from its book.
    new = house.new()
    return [(1 << power) ^ first_of(new, house.home(power)) for power in range(powers) if power not in new]
