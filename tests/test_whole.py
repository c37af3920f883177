"""One house, and one town, asked all that the interface tells of them, ahead of and behind what is done to them."""

import random
import unittest

from helper import crowded, far_bars, far_numbers, homes_one_by_one, same

from firstbooks.apart import pair_count, pair_first, pair_nth, pairs_met, parts, unlike
from firstbooks.asks import tells_apart
from firstbooks.beside import beside, raised
from firstbooks.checks import homes_of
from firstbooks.errors import BadBar, BadMoment, Close, NoBar, NoBook, NoEntry, NoPair, SameMoment, TooMany, Twice
from firstbooks.fewmarks import fewest_marks, shows_fewest, with_marks
from firstbooks.house import House
from firstbooks.idle import core, how_many_alike, how_many_cores, idle_bars, is_core, turning
from firstbooks.orders import Order
from firstbooks.papers import barred_by, shows_whole, shows_why, whole, why
from firstbooks.renamed import renamed, shows_renamed
from firstbooks.shelf import ahead, behind, count, first, nth, place
from firstbooks.texts import read_town, read_why, show_town, show_why, shows_text
from firstbooks.town import Town
from firstbooks.wishes import can_be, fewest, of_menu, turned_into

NUMBERS = [0, 1, 2, 3, 5, 12, 31, 40, 2 ** 63 + 5, 2 ** 189 + 3, 10 ** 199 + 7]
OTHER = House([1, 6, 12, 2 ** 70 + 1])
ORDER = Order([2, 1, 12, 2 ** 70 + 3])


def plain(thing):
    """Tell a thing that can be compared, with the bars of a house."""
    if isinstance(thing, House):
        return "house", thing.bars()
    if isinstance(thing, (list, tuple)):
        return type(thing)(plain(part) for part in thing)
    return thing


def of_the_house(house):
    """Tell all that a house tells of itself."""
    return [
        house.bars(), house.height(), house.new(), house.books(), house.checks(), len(house), house == OTHER,
        [house.home(power) for power in range(195)], [house.book_of(number) for number in NUMBERS],
        [house.sees(number, other) for number in NUMBERS for other in NUMBERS],
        homes_of(house.checks(), 195), whole(house), [why(house, number) for number in NUMBERS],
        [barred_by(house, number, book) for number in NUMBERS for book in (0, 1, 2, 300)],
        shows_whole(house.bars(), whole(house)), [shows_why(house, number, why(house, number)) for number in NUMBERS],
        idle_bars(house), core(house), how_many_cores(house), is_core(house, core(house)),
        [turning(house, bar) for bar in house.bars() + [1, 2, 6, 2 ** 100, 2 ** 189 + 1]],
        how_many_alike(house, 12) if house.height() <= 12 else None,
        [show_why(number, why(house, number)) for number in NUMBERS],
        [shows_text(house, show_why(number, why(house, number))) for number in NUMBERS],
    ]


def of_its_books(house):
    """Tell all that is told of the books of a house."""
    told = [[place(house, number) for number in NUMBERS]]
    for book in {0: 1, 1: 1, 2: 1, house.books() - 1: 1}:
        if book < house.books():
            told += [
                first(house, book), [nth(house, book, number) for number in NUMBERS],
                [count(house, book, number) for number in NUMBERS],
                [behind(house, book, number) for number in NUMBERS],
                [ahead(house, book, number) for number in NUMBERS],
                [with_marks(house, book, many, power) for many in range(4) for power in (0, 3, 9)],
            ]
            if house.books() < 32:
                paper = fewest_marks(house, book)
                told += [paper, shows_fewest(house, book, paper)]
    return told


def of_two_houses(house, other):
    """Tell all that is told of two houses."""
    pair = (house.book_of(13), other.book_of(13))
    paper = renamed(house, other)
    told = [
        parts(house, other), pairs_met(house, other), [unlike(house, other, number) for number in NUMBERS],
        pair_first(house, other, pair), [pair_nth(house, other, pair, number) for number in NUMBERS],
        [pair_count(house, other, pair, number) for number in NUMBERS], paper, shows_renamed(house, other, paper),
    ]
    if house.height() <= 80 and other.height() <= 80:
        told.append(beside(house, other, house.height() + 2))
    return told


def of_wishes(house):
    """Tell all that is told of the homes of a house as wished ones, and of a house that is led and raised."""
    homes = [house.home(power) for power in range(house.height())]
    menu = house.bars()
    told = [
        can_be(homes), turned_into(house, [1, 2, 0, 3]), turned_into(OTHER, [1, 0]), turned_into(house, homes),
        of_menu(homes, menu), of_menu(homes, menu, prices=[bar % 7 for bar in menu]), ORDER.led(house),
        [ORDER.book_of(house, ORDER.word(index)) for index in range(16)],
        raised(house, list(range(190))), tells_apart(menu, max(house.height(), 1))[0],
    ]
    if sum(homes) <= 200:
        told.append(House(fewest(homes)).height())
    return told


def all_told(house):
    return [
        of_the_house(house), of_its_books(house), of_two_houses(house, OTHER), of_two_houses(OTHER, house),
        of_two_houses(house, house), of_wishes(house),
    ]


class TestOneHouse(unittest.TestCase):
    def same_as_new(self, house, bars):
        told = plain(all_told(house))
        self.assertEqual(house.bars(), sorted(bars))
        self.assertEqual(OTHER.bars(), [1, 6, 12, 2 ** 70 + 1])
        self.assertTrue(same(told, plain(all_told(House(bars)))))

    def turned_again_and_again(self, seed, bars, many):
        pick = random.Random(seed)
        house, inside = House(), []
        for _ in range(many):
            bar = pick.choice(bars)
            if bar in inside:
                house.take(bar)
                inside.remove(bar)
            else:
                house.put(bar)
                inside.append(bar)
            if pick.random() < 0.3:
                self.same_as_new(house, inside)
        self.same_as_new(house, inside)
        # Who asks the same is told the same.
        self.assertTrue(same(plain(all_told(house)), plain(all_told(house))))

    def test_few_marks(self):
        for seed in range(4):
            self.turned_again_and_again(seed, range(1, 32), 25)

    def test_far_bars(self):
        for seed in range(3):
            self.turned_again_and_again(seed, far_bars(seed, 12), 12)
        self.turned_again_and_again(5, crowded([0, 2, 3]) + [2 ** 62, 2 ** 62 + 5, 2 ** 189, 2 ** 189 + 2 ** 62], 20)

    def test_two_hundred_bars(self):
        bars = far_bars(4, 200)
        house = House(bars)
        self.same_as_new(house, bars)
        for bar in bars[:3]:
            house.take(bar)
        self.same_as_new(house, bars[3:])
        for bar in bars[2::-1]:
            house.put(bar)
        self.same_as_new(house, bars)

    def test_what_is_refused_changes_nothing(self):
        house = House([1, 2, 3, 12])
        told = plain(all_told(house))
        for error, ask in (
            (Twice, lambda: house.put(3)), (BadBar, lambda: house.put(0)), (BadBar, lambda: house.put(2 ** 190)),
            (NoBar, lambda: house.take(4)), (NoBar, lambda: house.take(None)), (BadBar, lambda: turning(house, True)),
            (NoBook, lambda: first(house, 4)), (NoBook, lambda: fewest_marks(house, -1)),
            (NoPair, lambda: pair_first(house, OTHER, (9, 0))), (Close, lambda: beside(house, OTHER, 3)),
            (BadBar, lambda: beside(house, OTHER, 150)), (TooMany, lambda: how_many_alike(house, 13)),
        ):
            with self.assertRaises(error):
                ask()
            self.assertTrue(same(plain(all_told(house)), told))

    def test_homes_by_going_one_by_one(self):
        pick = random.Random(7)
        for _ in range(40):
            bars = pick.sample(range(1, 64), pick.randrange(12))
            house = House(bars)
            homes = homes_one_by_one(bars, 7)
            self.assertEqual([house.home(power) for power in range(7)], homes)
            self.assertEqual(homes_of(house.checks(), 7), homes)
            number, (book, rows) = read_why(show_why(45, why(house, 45)))
            self.assertEqual((number, book), (45, house.book_of(45)))
            self.assertIs(shows_why(house, number, (book, rows)), True)


def of_the_town(town):
    """Tell all that a town tells."""
    moments = [0, 3, 7, 12, 20, 39, 10 ** 12, None]
    return [
        town.entries(), len(town), [town.entries(upto=moment) for moment in moments],
        [town.bars(upto=moment) for moment in moments], [town.house(upto=moment) for moment in moments],
        [town.moves(number) for number in NUMBERS], [town.moves(13, since=3, upto=moment) for moment in moments],
        [town.moved(moment) for moment, _ in town.entries()],
        [town.comes(number, book) for number in NUMBERS for book in range(3)],
        [town.same(one, other) for one in moments for other in moments], show_town(town),
    ]


class TestOneTown(unittest.TestCase):
    def same_as_new(self, town, inside):
        self.assertEqual(town.entries(), sorted(inside.items()))
        told = plain(of_the_town(town))
        anew = Town()
        for moment in sorted(inside):
            anew.turn(moment, inside[moment])
        self.assertTrue(same(told, plain(of_the_town(anew))))
        self.assertTrue(same(told, plain(of_the_town(read_town(show_town(town))))))

    def test_turned_and_dropped_again_and_again(self):
        for seed in range(6):
            pick = random.Random(seed)
            town, inside = Town(), {}
            bars = [1, 2, 3, 5, 6, 12, 2 ** 63, 2 ** 189 + 1] + far_numbers(seed, 2, 2 ** 180)[:1]
            for _ in range(30):
                moment = pick.choice([0, 3, 4, 7, 9, 12, 13, 20, 39, 10 ** 12])
                if moment in inside:
                    town.drop(moment)
                    del inside[moment]
                else:
                    inside[moment] = pick.choice(bars) or 1
                    town.turn(moment, inside[moment])
                if pick.random() < 0.3:
                    self.same_as_new(town, inside)
            self.same_as_new(town, inside)

    def test_what_is_refused_changes_nothing(self):
        town = Town()
        town.turn(3, 1)
        town.turn(7, 6)
        for error, ask in (
            (SameMoment, lambda: town.turn(3, 2)), (BadMoment, lambda: town.turn(-1, 2)),
            (BadBar, lambda: town.turn(4, 0)), (NoEntry, lambda: town.drop(4)), (NoEntry, lambda: town.moved(True)),
        ):
            with self.assertRaises(error):
                ask()
            self.same_as_new(town, {3: 1, 7: 6})


if __name__ == "__main__":
    unittest.main()
