"""Wished homes: whether they can be, and the bars that make them."""

from firstbooks.errors import BadBar, CantBe, TooMany, Twice
from firstbooks.helper import first_of, is_bar, keepers_by, new_by
from firstbooks.house import House

MOST_BARS = 200


def can_be(homes):
    """Tell the first place whose wished home can't be, None where all can be."""
    books = 1
    for place, home in enumerate(homes):
        # By bars a power is kept out of any books of lesser numbers, and only of these.
        if home > books:
            return place
        if home == books:
            books = books * 2
    return None


def fewest(homes):
    """Tell the fewest bars that make wished homes, rising."""
    return turned_into(House(), homes)[1]


def of_menu(homes, menu, *, prices=None):
    """Tell the fewest, or the cheapest, and the most bars of a menu that make wished homes, and how many sets do."""
    _refuse_impossible(homes)
    _refuse_menu(menu, len(homes))
    kept = keepers_by(homes, menu)
    for power, home in enumerate(homes):
        book = _least_wanting(home, kept.get(power, {}))
        if book < home:
            return "none", power, book
    costs = {bar: 0 for bar in menu} if prices is None else dict(zip(menu, prices))
    few = _cheapest(homes, kept, costs)
    most = _most(homes, kept)
    many = _how_many_sets(homes, kept)
    if prices is None:
        return "bars", few, most, many
    return "bars", few, sum([costs[bar] for bar in few]), most, many


def turned_into(house, homes):
    """Tell the fewest bars to be taken out of a house and to be put in such that it has wished homes."""
    _refuse_impossible(homes)
    bars = house.bars()
    out = [bar for bar in bars if bar >> len(homes)]
    kept = keepers_by(homes, [bar for bar in bars if not bar >> len(homes)])
    wanting = 0
    for power, home in enumerate(homes):
        by_book = kept.get(power, {})
        # A bar that leads to the wished home itself would keep the power out of it.
        out.extend(by_book.get(home, []))
        wanting = wanting + home - len([book for book in by_book if book < home])
    # Homes can be far numbers: how many bars there would be is told without making them.
    many = len(bars) - len(out) + wanting
    if many > MOST_BARS:
        raise TooMany(many)
    return sorted(out), _wanting_bars(homes, kept)


def _refuse_impossible(homes):
    """Refuse wished homes that can't be."""
    place = can_be(homes)
    if place is not None:
        raise CantBe(place)


def _refuse_menu(menu, powers):
    """Refuse a menu in which a thing is no bar below 2 ** powers, or stands twice."""
    for thing in menu:
        if not is_bar(thing) or thing >> powers:
            raise BadBar(thing)
    seen = {}
    for bar in menu:
        if bar in seen:
            raise Twice(bar)
        seen[bar] = True


def _least_wanting(home, by_book):
    """Tell the least book less than a wished home to which no bar leads, the home where there is none."""
    book = 0
    while book < home and book in by_book:
        book = book + 1
    return book


def _wanting_bars(homes, kept):
    """Tell a bar for each book that a power is still to be kept out of, rising."""
    new = new_by(homes)
    bars = []
    for power, home in enumerate(homes):
        by_book = kept.get(power, {})
        # The books less than a home are those of lesser numbers, so no greater power makes them.
        bars.extend([(1 << power) ^ first_of(new, book) for book in range(home) if book not in by_book])
    return sorted(bars)


def _cheapest(homes, kept, costs):
    """Tell a cheapest bar for each book that a power is to be kept out of, rising."""
    few = []
    for power, home in enumerate(homes):
        for book in range(home):
            few.append(min(kept[power][book], key=lambda bar: costs[bar]))
    return sorted(few)


def _most(homes, kept):
    """Tell all bars that keep no power out of its wished home, rising."""
    most = []
    for power, by_book in kept.items():
        for book, bars in by_book.items():
            if book != homes[power]:
                most.extend(bars)
    return sorted(most)


def _how_many_sets(homes, kept):
    """Tell how many sets of the bars make the homes."""
    many = 1
    for power, by_book in kept.items():
        for book, bars in by_book.items():
            # Of the bars that lead to a lesser book one at least is wanted, those to a greater one are free.
            if book < homes[power]:
                many = many * ((1 << len(bars)) - 1)
            elif book > homes[power]:
                many = many << len(bars)
    return many
