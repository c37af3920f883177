"""What several files of the package share."""

from firstbooks.errors import NoBook
from firstbooks.marks import marks, number_of, top

BAR_MARKS = 190
LAST_MOMENT = 1000000000000
FIGURES = "0123456789"
MOST_FIGURES = 200


def is_number(thing):
    """Tell whether a thing of any kind is a number."""
    return isinstance(thing, int) and not isinstance(thing, bool) and thing >= 0


def is_bar(thing):
    """Tell whether a thing of any kind is a bar."""
    return is_number(thing) and 0 < thing < 1 << BAR_MARKS


def is_moment(thing):
    """Tell whether a thing of any kind is a moment."""
    return is_number(thing) and thing <= LAST_MOMENT


def is_list(thing):
    """Tell whether a thing of any kind is a list, or a tuple handed in as one."""
    return isinstance(thing, (list, tuple))


def is_tuple_of(thing, many):
    """Tell whether a thing of any kind is a tuple of so many things."""
    return isinstance(thing, tuple) and len(thing) == many


def is_same(thing, number):
    """Tell whether a thing of any kind is this number."""
    # True is alike to 1, and 1.0 too, so the kind is asked first.
    return is_number(thing) and thing == number


def are_rising(numbers):
    """Tell whether each number of a list is greater than the one ahead of it."""
    return all([one < other for one, other in zip(numbers, numbers[1:])])


def are_marks(things):
    """Tell whether a list's things of any kind are marks that a bar can have, rising."""
    if not all([is_number(thing) and thing < BAR_MARKS for thing in things]):
        return False
    return are_rising(things)


def is_sign(thing):
    """Tell whether a thing of any kind is a sign by threes."""
    return is_number(thing) and thing < 3


def number_in(word):
    """Tell the number that a word writes, None where it writes none."""
    if word == "" or len(word) > MOST_FIGURES:
        return None
    # Python reads other signs as figures, too, and so it isn't asked.
    if not all([sign in FIGURES for sign in word]):
        return None
    return None if word[0] == "0" and word != "0" else int(word)


def moment_in(word):
    """Tell the moment that a word writes, None where it writes none."""
    number = number_in(word)
    return number if is_moment(number) else None


def bar_in(words):
    """Tell the bar whose marks a list of words writes, None where they write none."""
    places = [number_in(word) for word in words]
    return number_of(places) if places and are_marks(places) else None


def crosswise(numbers, many):
    """Tell for each of the first so many marks the number whose marks are the places of the numbers that have it."""
    return [
        number_of([place for place, number in enumerate(numbers) if (number >> mark) & 1])
        for mark in range(many)
    ]


def book_by(homes, number):
    """Tell the book of a number by the homes of the powers 0, 1, .."""
    # The book of a sum is the sum of the books, so the homes tell every book.
    book = 0
    for power, home in enumerate(homes):
        if (number >> power) & 1:
            book = book ^ home
    return book


def homes_by(bars):
    """Tell the homes of all powers below the height of a house of these bars."""
    lower = {}
    height = 0
    for bar in bars:
        power = top(bar)
        lower.setdefault(power, []).append(bar ^ (1 << power))
        height = max(height, power + 1)
    homes = []
    for power in range(height):
        # A power sees a lesser number only by a bar of which it is the top mark.
        seen = [book_by(homes, number) for number in lower.get(power, [])]
        homes.append(_least_beside(seen))
    return homes


def _least_beside(books):
    """Tell the least book that isn't among these."""
    taken = set(books)
    least = 0
    while least in taken:
        least = least + 1
    return least


def low_homes(house):
    """Tell the homes of all powers below the height of a house, a list of the asker's own."""
    return [house.home(power) for power in range(house.height())]


def new_by(homes):
    """Tell the powers whose homes are no books of lesser numbers, rising, by the homes of the powers 0, 1, .."""
    found = []
    for power, home in enumerate(homes):
        # The books of lesser numbers are all those below 2 ** (new powers so far).
        if home == 1 << len(found):
            found.append(power)
    return found


def first_of(new, book):
    """Tell the first number of a book by the new powers, whose homes are 1, 2, 4, .."""
    return number_of([new[mark] for mark in marks(book)])


def refuse_unmet(house, book):
    """Refuse a thing of any kind that is no book that is met."""
    if not is_number(book) or book >= house.books():
        raise NoBook(book)


def keepers_by(homes, bars):
    """Tell for each top mark the bars that have it, by the book that each keeps this power out of."""
    told = {}
    for bar in bars:
        power = top(bar)
        book = book_by(homes, bar ^ (1 << power))
        told.setdefault(power, {}).setdefault(book, []).append(bar)
    return told


def keepers(house):
    """Tell the keepers of a house: its bars by their top marks and by the books they keep these powers out of."""
    return keepers_by(low_homes(house), house.bars())


def signs_by(base, number):
    """Tell the signs of a number written by a base, the greatest place first, none for 0."""
    signs = []
    while number:
        signs.append(number % base)
        number = number // base
    return signs[::-1]


def read_by(base, signs):
    """Tell the number that signs write by a base, the greatest place first."""
    number = 0
    for sign in signs:
        number = number * base + sign
    return number


def led_by(book, sign):
    """Tell the book of 3 * n + sign by evenness, by that of n."""
    return (3 * book + sign) // 2


def heads_of(book):
    """Tell for the two signs on which a book's numbers end by threes the book of what stands ahead of the sign."""
    # Twice the book, or one more, is three times the book ahead and the sign.
    return {twice % 3: twice // 3 for twice in (2 * book, 2 * book + 1)}


def sum_at(rows, place):
    """Tell the sum of the rows at the marks of a place."""
    total = 0
    for mark in marks(place):
        total = total ^ rows[mark]
    return total


def many_below(start, rows, bound):
    """Tell how many sums of the start and some of the rows are less than a bound.

    The rows rise, and each one's top mark is a mark of no other row and not of the start.
    """
    # Such sums rise with their places, so the last place below the bound is found mark by mark.
    if start >= bound:
        return 0
    number = start
    place = 0
    for mark in reversed(range(len(rows))):
        if number ^ rows[mark] < bound:
            number = number ^ rows[mark]
            place = place + (1 << mark)
    return place + 1
