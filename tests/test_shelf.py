import unittest

from helper import ANYTHINGS, books_one_by_one, crowded, far_bars, far_numbers, some_houses

from firstbooks.errors import NoBook
from firstbooks.house import House
from firstbooks.shelf import ahead, behind, count, first, nth, place


class TestShelf(unittest.TestCase):
    def check(self, house):
        """Look at all that is told of the numbers below a bound, by going one by one."""
        below = 2 ** (house.height() + 2)
        books = books_one_by_one(house.bars(), below)
        for book in range(house.books()):
            numbers = [number for number in range(below) if books[number] == book]
            self.assertEqual(first(house, book), numbers[0])
            self.assertEqual([nth(house, book, j) for j in range(len(numbers))], numbers)
            for number in range(below - 2 ** house.height()):
                less = [one for one in numbers if one < number]
                self.assertEqual(count(house, book, number), len(less))
                self.assertEqual(ahead(house, book, number), less[-1] if less else None)
                self.assertEqual(behind(house, book, number), min(one for one in numbers if one > number))
            for j, number in enumerate(numbers):
                self.assertEqual(place(house, number), j)

    def test_by_going_one_by_one(self):
        for bars in some_houses()[::4] + [[3], [5], [6], [1, 6], [2, 12, 14], [8, 9, 4, 13], crowded([0, 2, 3])]:
            house = House(bars)
            self.check(house)
            self.assertEqual(house, House(bars))

    def test_a_house_without_bars(self):
        house = House()
        self.check(house)
        for number in (0, 1, 10 ** 199):
            self.assertEqual(nth(house, 0, number), number)
            self.assertEqual(count(house, 0, number), number)
            self.assertEqual(place(house, number), number)
            self.assertEqual(behind(house, 0, number), number + 1)
        self.assertIsNone(ahead(house, 0, 0))

    def test_books_that_are_not_met(self):
        for bars in ([], [1], [1, 2, 3], far_bars(4, 200)):
            house = House(bars)
            for thing in ANYTHINGS + [house.books(), house.books() + 1, 10 ** 199]:
                asks = (
                    lambda: first(house, thing), lambda: nth(house, thing, 0), lambda: nth(house, thing, 10 ** 199),
                    lambda: count(house, thing, 0), lambda: count(house, thing, 5), lambda: behind(house, thing, 5),
                    lambda: ahead(house, thing, 0), lambda: ahead(house, thing, 5),
                )
                for ask in asks:
                    with self.assertRaises(LookupError) as caught:
                        ask()
                    self.assertIs(caught.exception.__class__, NoBook)
                    self.assertIs(caught.exception.book, thing)
            self.assertEqual(house, House(bars))

    def test_far_numbers_by_what_is_told_alone(self):
        for bars in ([], [2 ** 189], far_bars(1, 5), far_bars(2, 60), far_bars(3, 200), crowded([0, 3, 64, 150, 189]),
                     crowded([0, 1, 2, 3, 4, 5, 6])):
            house = House(bars)
            for seed, book in enumerate(sorted({0, 1, house.books() // 2, house.books() - 1})):
                if book >= house.books():
                    continue
                for j in far_numbers(seed, 12) + [0, 1, 2 ** 64, 10 ** 200 - 1]:
                    number = nth(house, book, j)
                    self.assertEqual(house.book_of(number), book)
                    self.assertEqual(place(house, number), j)
                    self.assertEqual(count(house, book, number), j)
                    self.assertEqual(count(house, book, number + 1), j + 1)
                    self.assertEqual(behind(house, book, number), nth(house, book, j + 1))
                    self.assertEqual(ahead(house, book, number), nth(house, book, j - 1) if j else None)

    def test_far_bounds(self):
        house = House(far_bars(5, 120))
        for bound in far_numbers(6, 30) + [0, 1, 2 ** 189, 2 ** 190 - 1, 2 ** 190, 2 ** 664]:
            many = [count(house, book, bound) for book in range(house.books())]
            self.assertEqual(sum(many), bound)
            book = house.book_of(bound)
            self.assertEqual(place(house, bound), many[book])
            for book in range(0, house.books(), 5):
                after = behind(house, book, bound)
                before = ahead(house, book, bound)
                self.assertEqual(house.book_of(after), book)
                self.assertGreater(after, bound)
                if before is None:
                    self.assertEqual(many[book], 0)
                    self.assertGreaterEqual(first(house, book), bound)
                else:
                    self.assertEqual(house.book_of(before), book)
                    self.assertLess(before, bound)
                    self.assertEqual(place(house, before), many[book] - 1)
                self.assertEqual(place(house, after), many[book] + (house.book_of(bound) == book))

    def test_the_books_of_a_full_house(self):
        house = House(crowded([0, 1, 2, 3, 4, 5, 6]))
        self.assertEqual([first(house, book) for book in range(128)], list(range(128)))
        self.assertEqual(nth(house, 77, 10 ** 199), 128 * 10 ** 199 + 77)

    def test_asked_again_behind_a_turn(self):
        house = House([1])
        self.assertEqual([nth(house, 1, j) for j in range(3)], [1, 3, 5])
        house.put(2)
        self.assertEqual([nth(house, 1, j) for j in range(3)], [1, 2, 5])
        self.check(house)
        house.put(3)
        self.assertEqual((first(house, 3), count(house, 3, 12), ahead(house, 3, 7)), (3, 3, 3))
        self.check(house)
        house.take(1)
        self.check(house)
        with self.assertRaises(NoBook):
            first(house, 3)

    def test_by_names(self):
        house = House([1])
        self.assertEqual(first(house=house, book=1), 1)
        self.assertEqual(nth(house=house, book=1, place=2), 5)
        self.assertEqual(count(house=house, book=1, below=4), 2)
        self.assertEqual(behind(house=house, book=1, number=1), 3)
        self.assertEqual(ahead(house=house, book=1, number=3), 1)
        self.assertEqual(place(house=house, number=5), 2)


if __name__ == "__main__":
    unittest.main()
