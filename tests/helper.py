"""What the tests share: books found by going through all numbers one by one."""

import random

ANYTHINGS = [
    None, True, False, -1, -7, 1.0, 2.5, "", "1", b"1", (), [], {}, (1,), [1], {1: 1}, {1}, object(), int,
    [[]], ((1, 2), 3), 1j, range(3), -(2 ** 190), float("inf"), float("nan"),
]


def books_one_by_one(bars, below):
    """Tell the books of the numbers below a bound, a list, by [12] alone."""
    shelves = []
    books = []
    for number in range(below):
        book = 0
        while book < len(shelves) and any(number ^ other in bars for other in shelves[book]):
            book += 1
        if book == len(shelves):
            shelves.append([])
        shelves[book].append(number)
        books.append(book)
    return books


def all_sets(numbers):
    """Tell all lists of some of the numbers."""
    numbers = list(numbers)
    return [[n for k, n in enumerate(numbers) if i >> k & 1] for i in range(2 ** len(numbers))]


def some_houses():
    """Tell lists of bars of few marks: all of those below 8, and picked ones below 64."""
    pick = random.Random(20)
    told = all_sets(range(1, 8))
    for many in (1, 2, 3, 5, 8, 12, 20, 33, 63):
        for _ in range(3):
            told.append(sorted(pick.sample(range(1, 64), many)))
    return told


def far_bars(seed, many, marks=190):
    """Tell unlike bars with marks up to a greatest, picked, with low ones and high ones."""
    pick = random.Random(seed)
    told = {}
    while len(told) < many:
        told[pick.randrange(1, 2 ** pick.choice([3, 5, 9, 40, marks]))] = True
    return list(told)


def far_numbers(seed, many, bound=10 ** 200):
    """Tell numbers of any length below a bound, picked."""
    pick = random.Random(seed)
    return [pick.randrange(bound) >> pick.randrange(bound.bit_length()) for _ in range(many)]


def crowded(power_places):
    """Tell bars that make as many books as can be: all sums of the powers at these places."""
    told = []
    for i in range(1, 2 ** len(power_places)):
        told.append(sum(2 ** p for k, p in enumerate(power_places) if i >> k & 1))
    return told
