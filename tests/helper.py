"""What the tests share: books found by going through all numbers one by one."""

import random

ANYTHINGS = [
    None, True, False, -1, -7, 1.0, 2.5, "", "1", b"1", (), [], {}, (1,), [1], {1: 1}, {1}, object(), int,
    [[]], ((1, 2), 3), 1j, range(3), -(2 ** 190), float("inf"), float("nan"),
]


def one_by_one(below, barred):
    """Tell the books of the numbers below a bound, each in the first that doesn't bar it, by [1] alone."""
    shelves = []
    books = []
    for number in range(below):
        book = 0
        while book < len(shelves) and barred(shelves[book], number):
            book += 1
        if book == len(shelves):
            shelves.append(set())
        shelves[book].add(number)
        books.append(book)
    return books


def books_one_by_one(bars, below):
    """Tell the books of the numbers below a bound, a list, by [12] alone."""
    return one_by_one(below, lambda shelf, number: any(number ^ other in bars for other in shelf))


def evenly_barred(shelf, number):
    """Tell whether two numbers of a shelf and a number are evenly spaced."""
    return any(number - d in shelf and number - 2 * d in shelf for d in range(1, number // 2 + 1))


def even_one_by_one(below):
    """Tell the books of the numbers below a bound by evenness, by [27]'s first sentence alone."""
    return one_by_one(below, evenly_barred)


def all_sets(numbers):
    """Tell all lists of some of the numbers."""
    numbers = list(numbers)
    return [[n for k, n in enumerate(numbers) if i >> k & 1] for i in range(2 ** len(numbers))]


def some_houses():
    """Tell lists of bars of few marks: all of those below 8, and picked ones below 64."""
    pick = random.Random(20)
    told = all_sets(range(1, 8))
    for many in (1, 2, 3, 5, 8, 12, 20, 33, 63):
        for _ in range(3):
            told.append(sorted(pick.sample(range(1, 64), many)))
    return told


def far_bars(seed, many, marks=190):
    """Tell unlike bars with marks up to a greatest, picked, with low ones and high ones."""
    pick = random.Random(seed)
    told = {}
    while len(told) < many:
        told[pick.randrange(1, 2 ** pick.choice([3, 5, 9, 40, marks]))] = True
    return list(told)


def far_numbers(seed, many, bound=10 ** 200):
    """Tell numbers of any length below a bound, picked."""
    pick = random.Random(seed)
    return [pick.randrange(bound) >> pick.randrange(bound.bit_length()) for _ in range(many)]


def crowded(power_places):
    """Tell bars that make as many books as can be: all sums of the powers at these places."""
    told = []
    for i in range(1, 2 ** len(power_places)):
        told.append(sum(2 ** p for k, p in enumerate(power_places) if i >> k & 1))
    return told


def otherwise(thing):
    """Tell things that differ from a paper at one place, at any depth."""
    if isinstance(thing, int):
        yield from (thing + 1, thing - 1, thing ^ 4, -thing - 1, float(thing), str(thing), None, [thing], (thing,))
        if thing in (0, 1):
            yield thing == 1
        return
    if isinstance(thing, str):
        yield from ("", thing + " ", " " + thing, thing[:-1], thing.upper(), thing.encode(), list(thing), None, 0, True)
        return
    if isinstance(thing, tuple):
        yield list(thing)
    kind = type(thing)
    yield kind(list(thing) + [thing])
    yield kind(list(thing) + [0])
    yield from (None, {}, 0, True, "paper")
    for place, part in enumerate(thing):
        yield kind(list(thing[:place]) + list(thing[place + 1:]))
        yield kind(list(thing[:place]) + [part] + list(thing[place:]))
        if place and thing[place - 1] != part:
            yield kind(list(thing[:place - 1]) + [part, thing[place - 1]] + list(thing[place + 1:]))
        for other in otherwise(part):
            yield kind(list(thing[:place]) + [other] + list(thing[place + 1:]))


def with_tuples(thing):
    """Tell the same paper with a tuple for each list."""
    return tuple(with_tuples(part) for part in thing) if isinstance(thing, (list, tuple)) else thing


def same(one, other):
    """Tell whether two things are the same in their kinds, too."""
    if type(one) is not type(other):
        return False
    if isinstance(one, (list, tuple)):
        return len(one) == len(other) and all(same(a, b) for a, b in zip(one, other))
    return one == other


def refused(case, error, ask, **fields):
    """Look at it that an ask is refused by just this class, with the very things as its fields."""
    with case.assertRaises(error) as caught:
        ask()
    case.assertIs(caught.exception.__class__, error)
    case.assertEqual(sorted(vars(caught.exception)), sorted(fields))
    for field, thing in fields.items():
        case.assertIs(getattr(caught.exception, field), thing)


def homes_one_by_one(bars, powers):
    """Tell the homes of the powers below a number of them, by going through all numbers one by one."""
    books = books_one_by_one(bars, 2 ** powers)
    return [books[2 ** power] for power in range(powers)]


def all_homes(powers):
    """Tell all homes that houses of bars below 2 ** powers have, each with the houses that have them."""
    told = {}
    for bars in all_sets(range(1, 2 ** powers)):
        told.setdefault(tuple(homes_one_by_one(bars, powers)), []).append(bars)
    return told
