import random
import unittest

from helper import books_one_by_one, crowded, far_bars, far_numbers

from firstbooks.house import House


def far_houses():
    told = [House(far_bars(seed, many)) for seed, many in enumerate((1, 2, 5, 17, 60, 127, 200))]
    told.append(House(crowded([0, 1, 2, 3, 4, 5, 6]) + [2 ** 189, 2 ** 189 + 1]))
    told.append(House(crowded([3, 40, 77, 188, 189])))
    return told


class TestFar(unittest.TestCase):
    def test_the_book_of_a_sum_is_the_sum_of_the_books(self):
        for house in far_houses():
            numbers = far_numbers(5, 40) + [0, 1, 2 ** 189, 2 ** 190 - 1, 2 ** 190, 2 ** 664]
            for one in numbers:
                for other in numbers[::3]:
                    self.assertEqual(house.book_of(one ^ other), house.book_of(one) ^ house.book_of(other))

    def test_a_number_sees_none_of_its_book_and_one_of_each_lesser(self):
        for house in far_houses():
            bars = house.bars()
            for number in far_numbers(6, 20):
                book = house.book_of(number)
                seen = {house.book_of(number ^ bar) for bar in bars if number ^ bar < number}
                self.assertNotIn(book, seen)
                self.assertEqual([b for b in range(book) if b not in seen], [])

    def test_marks_beyond_the_bars_change_no_book(self):
        for house in far_houses():
            for number in far_numbers(7, 20, 2 ** 190):
                self.assertEqual(house.book_of(number + 2 ** 190), house.book_of(number))
                self.assertEqual(house.book_of(number + 2 ** 664), house.book_of(number))
            self.assertEqual(house.book_of(2 ** house.height()), 0)

    def test_the_least_numbers_one_by_one(self):
        for house in far_houses():
            books = books_one_by_one(set(house.bars()), 256)
            self.assertEqual([house.book_of(n) for n in range(256)], books)

    def test_never_more_books_than_bars_and_one(self):
        for house in far_houses():
            self.assertLessEqual(house.books(), len(house) + 1)
            self.assertEqual(house.books(), 2 ** len(house.new()))
            for number in far_numbers(8, 50):
                self.assertLess(house.book_of(number), house.books())

    def test_as_many_books_as_can_be(self):
        for places in ([0], [0, 1], [0, 1, 2], [0, 1, 2, 3], [189], [7, 189], [5, 64, 150], [0, 63, 64, 189]):
            house = House(crowded(places))
            self.assertEqual(len(house), 2 ** len(places) - 1)
            self.assertEqual(house.books(), len(house) + 1)
            self.assertEqual(house.new(), places)
            self.assertEqual([house.home(p) for p in places], [2 ** k for k in range(len(places))])
            self.assertEqual(house.checks(), [2 ** p for p in places])
            # One bar less, and there are fewer books.
            for bar in house.bars():
                house.take(bar)
                self.assertLess(house.books(), 2 ** len(places))
                house.put(bar)

    def test_the_homes_of_new_powers_go_by_twos(self):
        for house in far_houses():
            self.assertEqual([house.home(p) for p in house.new()], [2 ** k for k in range(len(house.new()))])
            for power in range(190):
                before = sum(1 for new in house.new() if new < power)
                if power not in house.new():
                    self.assertLess(house.home(power), 2 ** before)

    def test_the_order_of_putting_in_does_not_matter(self):
        bars = far_bars(9, 120)
        one = House(bars)
        random.Random(1).shuffle(bars)
        other = House()
        for bar in bars:
            other.put(bar)
            other.home(3)
        self.assertEqual(one, other)
        self.assertEqual([one.home(p) for p in range(200)], [other.home(p) for p in range(200)])

    def test_checks_tell_the_book(self):
        for house in far_houses():
            for number in far_numbers(10, 20):
                book = 0
                for mark, check in enumerate(house.checks()):
                    book += (bin(number & check).count("1") % 2) << mark
                self.assertEqual(book, house.book_of(number))


if __name__ == "__main__":
    unittest.main()
