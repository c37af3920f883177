"""Evenness: no three evenly spaced numbers in a book."""

from firstbooks.errors import BadSigns
from firstbooks.helper import heads_of, is_list, is_sign, led_by, read_by, signs_by


def even_book(number):
    """Tell the book into which a number goes by evenness."""
    book = 0
    for sign in signs_by(3, number):
        book = led_by(book, sign)
    return book


def halves(book):
    """Tell the signs of which a book is made by halves, the greatest place first, none for 0."""
    signs = []
    while book:
        signs.append(2 * book % 3)
        book = 2 * book // 3
    return signs[::-1]


def from_halves(signs):
    """Tell the book whose halves a thing of any kind is."""
    if not is_list(signs):
        raise BadSigns("this is no list of signs")
    book = 0
    for sign in signs:
        if not is_sign(sign):
            raise BadSigns("a sign is 0, 1 or 2")
        twice = 3 * book + sign
        # It is 0 only by a nought ahead.
        if twice == 0 or twice % 2 == 1:
            raise BadSigns("these are the halves of no book")
        book = twice // 2
    return book


def even_first(book):
    """Tell the first number of a book."""
    return read_by(3, halves(book))


def even_nth(book, place):
    """Tell the number at a place of a book, rising, from 0 on."""
    table = [{book: 1}]
    while table[-1].get(0, 0) <= place:
        table.append(_one_more(table[-1]))
    number = 0
    head = 0
    left = place
    for ways in reversed(table[:-1]):
        sign = 0
        while left >= ways.get(led_by(head, sign), 0):
            left = left - ways.get(led_by(head, sign), 0)
            sign = sign + 1
        number = 3 * number + sign
        head = led_by(head, sign)
    return number


def even_count(book, below):
    """Tell how many numbers of a book are less than a bound."""
    signs = signs_by(3, below)
    table = [{book: 1}]
    while len(table) < len(signs):
        table.append(_one_more(table[-1]))
    many = 0
    head = 0
    for sign, ways in zip(signs, table[::-1]):
        many = many + sum([ways.get(led_by(head, less), 0) for less in range(sign)])
        head = led_by(head, sign)
    return many


def even_behind(book, number):
    """Tell the least number of a book that is greater than a number."""
    return even_nth(book, even_count(book, number + 1))


def even_ahead(book, number):
    """Tell the greatest number of a book that is less than a number, None where there is none."""
    many = even_count(book, number)
    return even_nth(book, many - 1) if many else None


def even_place(number):
    """Tell how many numbers of a number's book are less than it."""
    return even_count(even_book(number), number)


def even_reach(below):
    """Tell the greatest book that a number less than a bound has, None for 0."""
    reach = None
    head = 0
    for sign in signs_by(3, below):
        # The last sign is free behind lesser heads, and is less than the bound's behind its own head.
        found = [] if reach is None else [led_by(reach, 2)]
        if sign:
            found.append(led_by(head, sign - 1))
        reach = max(found)
        head = led_by(head, sign)
    return reach


def even_lacks(book):
    """Tell the sign on which no number of a book ends by threes."""
    return 2 - book % 3


def _one_more(ways):
    """Tell for each book of a head how many lists of signs lead from it to one book, by how many one sign less do."""
    told = {}
    for book, many in ways.items():
        for head in heads_of(book).values():
            told[head] = told.get(head, 0) + many
    return told
