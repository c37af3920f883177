"""Two houses that part numbers alike, whatever the names of their books."""

from firstbooks.apart import parts
from firstbooks.helper import is_list, is_number, is_same, is_tuple_of
from firstbooks.marks import top
from firstbooks.shelf import first


def renamed(one, other):
    """Tell whether two houses part numbers alike: the homes of the new powers, or two numbers that are parted."""
    number = parts(one, other)
    if number is None:
        return "alike", [(one.home(power), other.home(power)) for power in one.new()]
    # Lesser numbers have the same books in both, and one of them lies in the lesser home of this power.
    power = top(number)
    return "unlike", first(one, min(one.home(power), other.home(power))), number


def shows_renamed(one, other, paper):
    """Tell whether a thing of any kind tells rightly whether two houses part numbers alike."""
    if is_tuple_of(paper, 2):
        return paper[0] == "alike" and parts(one, other) is None and _are_homes(one, other, paper[1])
    return is_tuple_of(paper, 3) and paper[0] == "unlike" and _are_parted(one, other, paper[1], paper[2])


def _are_homes(one, other, rows):
    """Tell whether a thing is the list of the homes of the first house's new powers in both houses."""
    new = one.new()
    if not is_list(rows) or len(rows) != len(new):
        return False
    return all([_is_row(row, one.home(power), other.home(power)) for power, row in zip(new, rows)])


def _is_row(row, home, beside):
    """Tell whether a thing is this pair of books."""
    return is_tuple_of(row, 2) and is_same(row[0], home) and is_same(row[1], beside)


def _are_parted(one, other, number, greater):
    """Tell whether two things are numbers, rising, in one book of just one house."""
    if not is_number(number) or not is_number(greater) or number >= greater:
        return False
    together = one.book_of(number) == one.book_of(greater)
    return together != (other.book_of(number) == other.book_of(greater))
