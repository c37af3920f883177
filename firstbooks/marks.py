"""The marks of a number: the places of its ones when it is written by twos."""


def marks(number):
    """Tell the marks of a number, rising."""
    return [place for place in range(number.bit_length()) if (number >> place) & 1]


def number_of(places):
    """Tell the number whose marks are a list of unlike places."""
    number = 0
    for place in places:
        number = number | (1 << place)
    return number


def top(number):
    """Tell the greatest mark of a number, None of 0."""
    return number.bit_length() - 1 if number else None
