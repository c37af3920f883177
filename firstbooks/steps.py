"""Steps by evenness: by how much two numbers of a book stand ahead of a number, evenly spaced."""

from firstbooks.errors import BadSigns, NoStep, TooMany
from firstbooks.even import even_book
from firstbooks.helper import heads_of, is_list, is_number, is_sign, led_by, signs_by

MOST_STEPS = 200


def steps_many(number, book):
    """Tell how many steps of a number for a book there are."""
    return _steps(number, book)[0]


def step_least(number, book):
    """Tell the least step of a number for a book, None where there is none."""
    return _steps(number, book)[1]


def step_greatest(number, book):
    """Tell the greatest step of a number for a book, None where there is none."""
    return _steps(number, book)[2]


def is_step(number, book, step):
    """Tell whether a thing of any kind is a step of a number for a book."""
    if not is_number(step) or step == 0 or 2 * step > number:
        return False
    return even_book(number - step) == book and even_book(number - 2 * step) == book


def even_paper(number):
    """Tell a step of a number for each book less than its own, rising."""
    book = even_book(number)
    if book > MOST_STEPS:
        raise TooMany(book)
    return [step_least(number, lesser) for lesser in range(book)]


def shows_even(number, paper):
    """Tell whether a thing of any kind is a list of steps of a number, one for each book less than its own."""
    if not is_list(paper) or len(paper) != even_book(number):
        return False
    return all([is_step(number, lesser, step) for lesser, step in enumerate(paper)])


def led_on(number, book, step, signs):
    """Tell the number, the book and the step to which signs lead on, one behind the other."""
    if not is_step(number, book, step):
        raise NoStep(step)
    if not is_list(signs) or not all([is_sign(sign) for sign in signs]):
        raise BadSigns("signs are a list of numbers 0, 1 and 2")
    for sign in signs:
        number = 3 * number + sign
        book = led_by(book, sign)
        step = 3 * step
    return number, book, step


def _steps(number, book):
    """Tell how many steps of a number for a book there are, the least and the greatest."""
    # In its own book a number has no step, though it goes with itself by 0.
    if even_book(number) == book:
        return 0, None, None
    # What is known of the last signs of a step is kept by what they leave: what is still to be taken from the
    # heads of number - step and of number - 2 * step, and the books in which these heads are to lie.
    found = {(0, 0, book, book): (1, 0, 0)}
    place = 1
    for sign in signs_by(3, number)[::-1]:
        found = _one_sign_more(found, sign, place)
        place = 3 * place
    return found.get((0, 0, 0, 0), (0, None, None))


def _one_sign_more(found, sign, place):
    """Tell what is found with one sign of the step more, ahead of the others, by the number's sign there."""
    told = {}
    for (taken, twice, book, beside), (many, least, greatest) in found.items():
        heads = heads_of(book)
        beside_heads = heads_of(beside)
        for own in range(3):
            one = sign - own - taken
            two = sign - 2 * own - twice
            if one % 3 in heads and two % 3 in beside_heads:
                state = (-(one // 3), -(two // 3), heads[one % 3], beside_heads[two % 3])
                steps = (many, own * place + least, own * place + greatest)
                told[state] = _both(told[state], steps) if state in told else steps
    return told


def _both(one, other):
    """Tell how many steps there are in two lots, the least and the greatest."""
    return one[0] + other[0], min(one[1], other[1]), max(one[2], other[2])
