"""What several files of the package share."""

from firstbooks.marks import top

BAR_MARKS = 190


def is_number(thing):
    """Tell whether a thing of any kind is a number."""
    return isinstance(thing, int) and not isinstance(thing, bool) and thing >= 0


def is_bar(thing):
    """Tell whether a thing of any kind is a bar."""
    return is_number(thing) and 0 < thing < 1 << BAR_MARKS


def book_by(homes, number):
    """Tell the book of a number by the homes of the powers 0, 1, .."""
    # The book of a sum is the sum of the books, so the homes tell every book.
    book = 0
    for power, home in enumerate(homes):
        if (number >> power) & 1:
            book = book ^ home
    return book


def homes_by(bars):
    """Tell the homes of all powers below the height of a house of these bars."""
    lower = {}
    height = 0
    for bar in bars:
        power = top(bar)
        lower.setdefault(power, []).append(bar ^ (1 << power))
        height = max(height, power + 1)
    homes = []
    for power in range(height):
        # A power sees a lesser number only by a bar of which it is the top mark.
        seen = [book_by(homes, number) for number in lower.get(power, [])]
        homes.append(_least_beside(seen))
    return homes


def _least_beside(books):
    """Tell the least book that isn't among these."""
    taken = set(books)
    least = 0
    while least in taken:
        least = least + 1
    return least
