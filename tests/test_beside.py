import random
import unittest

from helper import ANYTHINGS, all_sets, books_one_by_one, crowded, far_bars, far_numbers, refused, same

from firstbooks.beside import beside, raised
from firstbooks.errors import BadBar, BadPlaces, Close
from firstbooks.house import House

SETS = all_sets(range(1, 8))


class TestBeside(unittest.TestCase):
    def test_by_going_through_all_numbers(self):
        pick = random.Random(1)
        for _ in range(60):
            bars, others = pick.choice(SETS), pick.choice(SETS)
            one, other = House(bars), House(others)
            for lift in range(one.height(), 5):
                told = beside(one, other, lift)
                self.assertIsInstance(told, House)
                self.assertTrue(same(told.bars(), sorted(bars + [bar * 2 ** lift for bar in others])))
                books = books_one_by_one(set(told.bars()), 2 ** (lift + 3))
                lower, upper = books_one_by_one(bars, 2 ** lift), books_one_by_one(others, 8)
                for number, book in enumerate(books):
                    self.assertEqual(book, lower[number % 2 ** lift] ^ upper[number // 2 ** lift])
                    self.assertEqual(told.book_of(number), book)
            self.assertEqual((one.bars(), other.bars()), (bars, others))

    def test_houses_without_bars(self):
        empty, house = House(), House([1, 6])
        for lift in (0, 1, 100, 190, 200):
            self.assertEqual(beside(empty, empty, lift).bars(), [])
        self.assertEqual(beside(empty, house, 0).bars(), [1, 6])
        self.assertEqual(beside(empty, house, 2).bars(), [4, 24])
        self.assertEqual(beside(house, empty, 3).bars(), [1, 6])
        self.assertEqual(beside(house, empty, 200).bars(), [1, 6])

    def test_a_house_beside_itself(self):
        house = House([1, 2, 3])
        self.assertEqual(beside(house, house, 2).bars(), [1, 2, 3, 4, 8, 12])
        self.assertEqual(house.bars(), [1, 2, 3])

    def test_too_close(self):
        for bars in ([1], [3], [6], [1, 2, 4], [2 ** 189], far_bars(1, 30)):
            one = House(bars)
            for others in ([], [1], [2 ** 189], far_bars(2, 20)):
                other = House(others)
                for lift in range(one.height()):
                    refused(self, Close, lambda: beside(one, other, lift), lift=lift)
                self.assertEqual((one.bars(), other.bars()), (sorted(bars), sorted(others)))

    def test_the_height_is_enough(self):
        for bars in ([1], [3], [6], [2 ** 188]):
            one = House(bars)
            told = beside(one, House([1]), one.height())
            self.assertEqual(told.bars(), sorted(bars + [2 ** one.height()]))

    def test_bars_that_are_none(self):
        for bars, others, lift, wanted in (
            ([1], [1], 190, 2 ** 190), ([1], [1, 2, 3], 189, 2 ** 190), ([], [2 ** 189], 1, 2 ** 190),
            ([1], [1, 2 ** 150, 2 ** 120, 2 ** 110 + 1], 80, 2 ** 190 + 2 ** 80), ([], [2 ** 100, 3], 200, 3 * 2 ** 200),
            ([2 ** 189], [1], 190, 2 ** 190), ([], [2 ** 189 + 1, 2 ** 189], 1, 2 ** 190),
        ):
            one, other = House(bars), House(others)
            with self.assertRaises(ValueError) as caught:
                beside(one, other, lift)
            self.assertIs(caught.exception.__class__, BadBar)
            self.assertTrue(same(vars(caught.exception), {"bar": wanted}))
            self.assertEqual((one.bars(), other.bars()), (sorted(bars), sorted(others)))

    def test_close_goes_ahead(self):
        for lift in (0, 1, 100, 149):
            refused(self, Close, lambda: beside(House([2 ** 149]), House([2 ** 189 + 1]), lift), lift=lift)
        with self.assertRaises(BadBar):
            beside(House([2 ** 149]), House([2 ** 189 + 1]), 150)

    def test_the_last_bar_that_can_be(self):
        self.assertEqual(beside(House([1]), House([1]), 189).bars(), [1, 2 ** 189])
        self.assertEqual(beside(House(), House([2 ** 189 - 1]), 1).bars(), [2 ** 190 - 2])
        self.assertEqual(beside(House(), House([2 ** 190 - 1]), 0).bars(), [2 ** 190 - 1])

    def test_far_houses(self):
        for seed in range(4):
            one, other = House(far_bars(seed, 100, 90)), House(far_bars(seed + 5, 100, 90))
            told = beside(one, other, 95)
            self.assertEqual(len(told), 200)
            for number in far_numbers(seed, 20):
                wanted = one.book_of(number % 2 ** 95) ^ other.book_of(number // 2 ** 95)
                self.assertEqual(told.book_of(number), wanted)

    def test_two_hundred_bars_each(self):
        one, other = House(far_bars(1, 200, 90)), House(far_bars(2, 200, 90))
        told = beside(one, other, 99)
        self.assertEqual(len(told), 400)

    def test_what_is_told_is_the_askers_own(self):
        one, other = House([1]), House([1])
        told = beside(one=one, other=other, lift=1)
        told.put(7)
        told.take(1)
        self.assertEqual((one.bars(), other.bars()), ([1], [1]))
        self.assertEqual(beside(one, other, 1).bars(), [1, 2])
        one.put(2)
        self.assertEqual(told.bars(), [2, 7])
        alone = beside(one, House(), 5)
        alone.take(1)
        self.assertEqual(one.bars(), [1, 2])


def lifted(bar, places):
    """Tell the bar with each mark raised, by [21] alone."""
    return sum(2 ** place for mark, place in enumerate(places) if bar // 2 ** mark % 2)


class TestRaised(unittest.TestCase):
    def test_bars_and_books(self):
        pick = random.Random(2)
        for _ in range(60):
            bars = pick.choice(SETS)
            house = House(bars)
            for _ in range(4):
                places = sorted(pick.sample(range(7), pick.randrange(house.height(), 6)))
                told = raised(house, places)
                self.assertIsInstance(told, House)
                self.assertTrue(same(told.bars(), sorted(lifted(bar, places) for bar in bars)))
                self.assertEqual(raised(house, tuple(places)), told)
                books, lower = books_one_by_one(set(told.bars()), 128), books_one_by_one(bars, 8)
                for number in range(2 ** min(3, len(places))):
                    self.assertEqual(books[lifted(number, places)], lower[number])
                for power in range(7):
                    self.assertEqual(books[2 ** power] == 0 or power in places, True)
            self.assertEqual(house.bars(), bars)

    def test_places_that_are_the_marks_themselves(self):
        for bars in SETS[::9] + [far_bars(1, 200)]:
            house = House(bars)
            self.assertEqual(raised(house, list(range(190))), house)
            self.assertEqual(raised(house, list(range(house.height()))), house)

    def test_as_many_as_the_height_or_more(self):
        house = House([1, 6])
        self.assertEqual(raised(house, [0, 5, 9]).bars(), [1, 2 ** 5 + 2 ** 9])
        self.assertEqual(raised(house, [0, 5, 9, 10, 189]).bars(), [1, 2 ** 5 + 2 ** 9])
        for places in ([], [0], [0, 1], (), (188, 189)):
            refused(self, BadPlaces, lambda: raised(house, places))
        self.assertEqual(raised(House([2 ** 189]), range_list(190)).bars(), [2 ** 189])
        refused(self, BadPlaces, lambda: raised(House([2 ** 189]), range_list(189)))

    def test_a_house_without_bars(self):
        for places in ([], (), [0], [189], [3, 100], range_list(190)):
            told = raised(House(), places)
            self.assertIsInstance(told, House)
            self.assertEqual(told.bars(), [])

    def test_the_least_and_the_greatest_place(self):
        self.assertEqual(raised(House([1, 2, 3]), [0, 189]).bars(), [1, 2 ** 189, 2 ** 189 + 1])
        self.assertEqual(raised(House([3]), [188, 189]).bars(), [2 ** 188 + 2 ** 189])
        for bars in ([], [1], [1, 2, 3]):
            for places in ([0, 190], [190], [0, 1, 200], [0, 1, 10 ** 199], [-1, 0, 1], [-1, 5]):
                refused(self, BadPlaces, lambda: raised(House(bars), places))

    def test_things_that_are_no_such_lists(self):
        for bars in ([], [1], [1, 2, 3], far_bars(3, 30)):
            house = House(bars)
            for thing in ANYTHINGS + [0, 5, "012", {0: 1, 1: 2}, {0, 1}, range(5)]:
                if thing in ([], (), [1], (1,)) and len(thing) >= house.height():
                    continue
                refused(self, BadPlaces, lambda: raised(house, thing))
            self.assertEqual(house, House(bars))

    def test_a_place_of_another_kind(self):
        house = House([1, 2])
        self.assertEqual(raised(house, [0, 1, 2]), house)
        for thing in ANYTHINGS:
            for places in ([thing, 5, 6], [0, thing, 6], [0, 1, thing], (0, 1, thing), [thing, 188, 189]):
                if thing != 1 or isinstance(thing, (bool, float)):
                    refused(self, BadPlaces, lambda: raised(house, places))
        for places in ([False, 1, 2], [0, True, 2], [0, 1.0, 2], [0, 1, "2"], [True, 2]):
            refused(self, BadPlaces, lambda: raised(house, places))
            refused(self, BadPlaces, lambda: raised(House(), places))

    def test_places_that_do_not_rise(self):
        for bars in ([], [1], [1, 2, 3]):
            for places in ([1, 0], [0, 0], [3, 3], [0, 1, 1], [0, 2, 1], [5, 6, 7, 7], [5, 6, 7, 0], (2, 1), [0, 189, 188]):
                refused(self, BadPlaces, lambda: raised(House(bars), places))

    def test_far_houses(self):
        pick = random.Random(4)
        for seed in range(4):
            house = House(far_bars(seed, 200, 90) if seed else crowded([0, 1, 2, 3, 4, 5, 6]))
            places = sorted(pick.sample(range(190), house.height() + seed))
            told = raised(house, places)
            self.assertEqual(told.bars(), [lifted(bar, places) for bar in house.bars()])
            self.assertEqual([told.home(place) for place in places], [house.home(p) for p in range(len(places))])

    def test_what_is_handed_in_stays_and_what_is_told_is_the_askers_own(self):
        house, places = House([1, 2]), [3, 5]
        told = raised(house=house, places=places)
        told.put(1)
        told.take(8)
        self.assertEqual((house.bars(), places), ([1, 2], [3, 5]))
        self.assertEqual(raised(house, places).bars(), [8, 32])


def range_list(many):
    return list(range(many))


if __name__ == "__main__":
    unittest.main()
