"""The marks that a book's numbers have: the fewest, and how many numbers have so many."""

from firstbooks.helper import is_list, is_same, is_tuple_of, low_homes, refuse_unmet


def fewest_marks(house, book):
    """Tell the fewest marks that a number of a book has, with a paper."""
    refuse_unmet(house, book)
    best = _best(house)
    many, number = best[book]
    lots = [sorted([other for other in best if best[other][0] == fewer]) for fewer in range(many)]
    return many, number, lots


def shows_fewest(house, book, paper):
    """Tell whether a thing of any kind is the paper of the fewest marks that a number of a book has."""
    many, number, lots = fewest_marks(house, book)
    if not is_tuple_of(paper, 3):
        return False
    told_many, told_number, told_lots = paper
    if not is_same(told_many, many) or not is_same(told_number, number):
        return False
    if not is_list(told_lots) or len(told_lots) != many:
        return False
    return all([_is_lot(lot, told) for lot, told in zip(lots, told_lots)])


def with_marks(house, book, many, power):
    """Tell how many numbers below 2 ** power with a number of marks lie in a book."""
    refuse_unmet(house, book)
    if many > power:
        return 0
    # Each book's counts, of the numbers with no marks, one, two, .., are written into one number,
    # the first ones lowest: none of them is above 2 ** power, so they don't run into one another.
    width = power + 1
    counts = [0] * house.books()
    counts[0] = 1
    for mark in range(power):
        home = house.home(mark)
        counts = [counts[other] + (counts[other ^ home] << width) for other in range(len(counts))]
    return (counts[book] >> (width * many)) & ((1 << width) - 1)


def _best(house):
    """Tell for each book that is met its fewest marks, and the least number that has so few."""
    best = {0: (0, 0)}
    for power, home in enumerate(low_homes(house)):
        # A number with this top mark is best where the rest of it is.
        behind = dict(best)
        for book, (many, number) in best.items():
            other = book ^ home
            found = (many + 1, number + (1 << power))
            if other not in behind or found < behind[other]:
                behind[other] = found
        best = behind
    return best


def _is_lot(lot, thing):
    """Tell whether a thing of any kind is this list of books."""
    if not is_list(thing) or len(thing) != len(lot):
        return False
    return all([is_same(told, book) for told, book in zip(thing, lot)])
