import random
import unittest

from helper import ANYTHINGS, far_bars, far_numbers, refused, same, some_houses

from firstbooks.errors import BadWord, Beyond, NoNumber
from firstbooks.house import House
from firstbooks.orders import Order

SOME_WORDS = (
    [], [1], [2], [5], [1, 2], [2, 1], [3, 1], [6, 5], [4, 6, 7], [7, 6, 4], [1, 2, 4, 8], [8, 4, 2, 1], [9, 3, 14, 5],
    [32, 1, 33 + 2], [63, 31, 15, 7],
)


def sums_of(words):
    """Tell the sums of the words in the order of their indexes."""
    told = []
    for index in range(2 ** len(words)):
        number = 0
        for place, word in enumerate(words):
            if index >> place & 1:
                number ^= word
        told.append(number)
    return told


def books_by_order(words, bars):
    """Tell the book of each sum, by going through them by their indexes."""
    books = {}
    for number in sums_of(words):
        book = 0
        while any(found == book and number ^ other in bars for other, found in books.items()):
            book += 1
        books[number] = book
    return books


def far_words(seed, many):
    """Tell words of which none is the sum of others: each has a mark of its own."""
    pick = random.Random(seed)
    places = pick.sample(range(190), many)
    free = sum(2 ** place for place in range(190) if place not in places)
    return [2 ** place + (pick.randrange(2 ** 190) & free) for place in places]


class TestWords(unittest.TestCase):
    def test_the_word_of_each_index(self):
        for words in SOME_WORDS:
            order = Order(words)
            sums = sums_of(words)
            self.assertTrue(same(len(order), len(words)))
            self.assertTrue(same([order.word(index) for index in range(len(sums))], sums))
            for index in (len(sums), len(sums) + 1, 2 * len(sums), 10 ** 199):
                refused(self, Beyond, lambda: order.word(index), place=index)

    def test_the_index_of_each_number(self):
        for words in SOME_WORDS:
            order = Order(words)
            sums = sums_of(words)
            for number in list(range(70)) + [2 ** 190, 10 ** 199]:
                if number in sums:
                    self.assertTrue(same(order.index_of(number), sums.index(number)))
                else:
                    self.assertIsNone(order.index_of(number))

    def test_an_order_without_words(self):
        for order in (Order([]), Order(())):
            self.assertEqual((len(order), order.word(0), order.index_of(0)), (0, 0, 0))
            self.assertIsNone(order.index_of(1))
            one = 1
            refused(self, Beyond, lambda: order.word(one), place=one)
            self.assertEqual(order.led(House([1, 2, 3])), House())
            self.assertEqual(order.book_of(House([1, 2, 3]), 0), 0)
            refused(self, NoNumber, lambda: order.book_of(House([1]), one), number=one)

    def test_far_words(self):
        for seed, many in ((1, 1), (2, 60), (3, 189), (4, 190)):
            words = far_words(seed, many)
            order = Order(words)
            self.assertEqual(len(order), many)
            for index in far_numbers(5, 20, 2 ** many) + [0, 2 ** many - 1, 2 ** (many - 1)]:
                number = order.word(index)
                self.assertEqual(order.index_of(number), index)
                self.assertEqual(number, order.word(index & 1) ^ order.word(index - (index & 1)))
                self.assertIsNone(order.index_of(number + 2 ** 190))
            for place, word in enumerate(words):
                self.assertEqual((order.word(2 ** place), order.index_of(word)), (word, 2 ** place))
            far = 2 ** many
            refused(self, Beyond, lambda: order.word(far), place=far)

    def test_things_that_are_no_words(self):
        for thing in ANYTHINGS + [0, 2 ** 190, 10 ** 199, -5]:
            for place, words in ((0, [thing]), (0, [thing, 1]), (1, [1, thing]), (2, [1, 2, thing, 0]), (1, (2, thing, 2))):
                self.check_bad(words, place)

    def check_bad(self, words, place):
        with self.assertRaises(BadWord) as caught:
            Order(words)
        self.assertIs(caught.exception.__class__, BadWord)
        self.assertTrue(same(vars(caught.exception), {"place": place}))

    def test_sums_of_words_ahead(self):
        for words, place in (([1, 1], 1), ([1, 2, 3], 2), ([3, 1, 2], 2), ([4, 1, 2, 7, 3], 3), ([5, 9, 6, 10, 12, 3], 3),
                             ([1, 2, 4, 1], 3), ([2 ** 189, 5, 2 ** 189 + 5], 2), ([6, 3, 5, 0], 2), ([6, 3, 0, 5], 2)):
            self.check_bad(words, place)
            self.check_bad(tuple(words), place)
            self.assertEqual(len(Order(words[:place])), place)
        # A true one goes at a place where False or 0 would, too; 1 isn't True.
        self.check_bad([2, True, 2], 1)
        self.check_bad([2, 2, True], 1)
        # All that are below: the next is a sum of some.
        for word in (1, 2 ** 189, 2 ** 190 - 1):
            self.check_bad(far_words(4, 190) + [word], 190)

    def test_the_greatest_word(self):
        self.assertEqual(Order([2 ** 190 - 1]).word(1), 2 ** 190 - 1)
        self.check_bad([2 ** 190], 0)

    def test_words_handed_in_stay_and_may_change_behind(self):
        words = [6, 5]
        order = Order(words)
        self.assertEqual(words, [6, 5])
        words[0] = 1
        words.append(8)
        self.assertEqual((len(order), order.word(1), order.word(3)), (2, 6, 3))
        self.assertIsNone(order.index_of(1))
        self.assertIsNone(order.index_of(8))
        alike = Order((6, 5))
        self.assertEqual([alike.word(index) for index in range(4)], [0, 6, 5, 3])


class TestBooks(unittest.TestCase):
    def test_by_going_through_all_sums_by_their_indexes(self):
        for words in SOME_WORDS:
            order = Order(words)
            for bars in some_houses()[::9]:
                house = House(bars)
                books = books_by_order(words, bars)
                for number in range(66):
                    if number in books:
                        self.assertTrue(same(order.book_of(house, number), books[number]), (words, bars, number))
                    else:
                        refused(self, NoNumber, lambda: order.book_of(house, number), number=number)
                self.assertEqual(house, House(bars))

    def test_the_led_house(self):
        for words in SOME_WORDS:
            order = Order(words)
            sums = sums_of(words)
            for bars in some_houses()[::9]:
                house = House(bars)
                told = order.led(house)
                self.assertIsInstance(told, House)
                self.assertEqual(told.bars(), sorted(sums.index(bar) for bar in bars if bar in sums))
                for index, number in enumerate(sums):
                    self.assertEqual(told.book_of(index), order.book_of(house, number))
                self.assertEqual(house, House(bars))

    def test_by_the_order_of_powers_the_books_of_the_house(self):
        house = House(far_bars(3, 120))
        order = Order([2 ** power for power in range(190)])
        self.assertEqual(order.led(house), house)
        for number in far_numbers(3, 20, 2 ** 190):
            self.assertEqual(order.book_of(house, number), house.book_of(number))
        far = 2 ** 190
        refused(self, NoNumber, lambda: order.book_of(house, far), number=far)

    def test_far_words(self):
        for seed, many in ((1, 40), (2, 190)):
            words = far_words(seed, many)
            order = Order(words)
            bars = [order.word(index) for index in far_bars(seed, 90, many) if index < 2 ** many]
            house = House(bars + [bar for bar in far_bars(7, 30) if bar not in bars])
            for index in far_numbers(8, 15, 2 ** many):
                number = order.word(index)
                book = order.book_of(house, number)
                ahead = [order.word(index ^ order.index_of(bar)) for bar in house.bars()
                         if order.index_of(bar) is not None and index ^ order.index_of(bar) < index]
                seen = {order.book_of(house, other) for other in ahead[:25]}
                self.assertNotIn(book, seen)
                self.assertEqual(book, order.led(house).book_of(index))

    def test_the_led_house_is_the_askers(self):
        house = House([1, 2, 3])
        order = Order([2, 1])
        told = order.led(house)
        told.take(3)
        told.put(77)
        self.assertEqual(order.led(house), House([1, 2, 3]))
        house.take(3)
        self.assertEqual(order.led(house), House([1, 2]))
        self.assertEqual(order.book_of(house, 3), 0)

    def test_by_names(self):
        order = Order(words=[2, 1])
        self.assertEqual((order.word(index=1), order.index_of(number=1)), (2, 2))
        self.assertEqual(order.led(house=House([1])), House([2]))
        self.assertEqual(order.book_of(house=House([1]), number=1), 1)


if __name__ == "__main__":
    unittest.main()
