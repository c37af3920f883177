import random
import unittest

from helper import ANYTHINGS, even_one_by_one, evenly_barred, far_numbers, refused, same

from firstbooks.errors import BadSigns
from firstbooks.even import (
    even_ahead, even_behind, even_book, even_count, even_first, even_lacks, even_nth, even_place, even_reach,
    from_halves, halves,
)


BELOW = 3 ** 6 + 50
BOOKS = even_one_by_one(BELOW)
LAST = max(BOOKS)


def numbers_of(book):
    return [number for number in range(BELOW) if BOOKS[number] == book]


def far_books():
    return [0, 1, 2, 3, 57, 10 ** 12] + far_numbers(3, 8) + [10 ** 200 - 1]


class TestEvenBook(unittest.TestCase):
    def test_by_going_one_by_one(self):
        self.assertTrue(same([even_book(number) for number in range(BELOW)], BOOKS))

    def test_far_numbers_by_lesser_ones(self):
        for number in far_numbers(2, 30) + [10 ** 200 - 1, 3 ** 400, 3 ** 400 - 1]:
            for sign in range(3):
                self.assertEqual(even_book(3 * number + sign), (3 * even_book(number) + sign) // 2)
        self.assertEqual(even_book(3 ** 400), 0)
        self.assertEqual(even_book(number=8), 2)

    def test_books_of_no_even_steps(self):
        # A number is in no lesser book, for a step bars it from each.
        for number in range(400):
            for book in range(BOOKS[number]):
                self.assertTrue(evenly_barred(set(numbers_of(book)), number))


class TestHalves(unittest.TestCase):
    def test_one_behind_the_other(self):
        for book in list(range(600)) + far_books() + [10 ** 350]:
            signs = halves(book)
            self.assertIsInstance(signs, list)
            self.assertTrue(all(type(sign) is int and 0 <= sign <= 2 for sign in signs))
            if book:
                self.assertEqual((2 * book - signs[-1]) % 3, 0)
                self.assertEqual(halves((2 * book - signs[-1]) // 3), signs[:-1])
            self.assertTrue(same(from_halves(signs), book))
            self.assertTrue(same(from_halves(tuple(signs)), book))

    def test_few(self):
        self.assertEqual([halves(book) for book in range(6)], [[], [2], [2, 1], [2, 1, 0], [2, 1, 2], [2, 1, 0, 1]])
        self.assertTrue(same(from_halves([]), 0))
        self.assertTrue(same(from_halves(()), 0))

    def test_all_lists_of_few_signs(self):
        books = {tuple(halves(book)): book for book in range(60)}
        lists = [()]
        for _ in range(6):
            lists += [some + (sign,) for some in lists if len(some) == len(lists[-1]) for sign in range(3)]
        for some in set(lists):
            if some in books:
                self.assertEqual(from_halves(list(some)), books[some])
            else:
                refused(self, BadSigns, lambda: from_halves(list(some)))
                refused(self, BadSigns, lambda: from_halves(some))

    def test_two_thousand_signs(self):
        pick = random.Random(6)
        signs = [2]
        book = 1
        while len(signs) < 2000:
            sign = pick.choice([0, 2]) if book % 2 == 0 else 1
            book = (3 * book + sign) // 2
            signs.append(sign)
        self.assertEqual(from_halves(signs), book)
        self.assertEqual(halves(book), signs)
        signs[1000] ^= 1
        refused(self, BadSigns, lambda: from_halves(signs))

    def test_things_of_any_kind(self):
        for thing in ANYTHINGS + [3, 2, 0, "2", "21", b"\2", {2: 1}, {2}, range(0)]:
            if thing not in ([], ()):
                refused(self, BadSigns, lambda: from_halves(thing))
            if not same(thing, 2):
                refused(self, BadSigns, lambda: from_halves([thing]))
            if not same(thing, 1):
                refused(self, BadSigns, lambda: from_halves([2, thing]))
            if not same(thing, 0):
                refused(self, BadSigns, lambda: from_halves([2, 1, thing] if not same(thing, 2) else [2, 1, 1]))
            refused(self, BadSigns, lambda: from_halves([2, 3, thing]))

    def test_true_and_false_are_no_signs(self):
        self.assertEqual((from_halves([2, 1]), from_halves([2, 1, 0])), (2, 3))
        for signs in ([2, True], [2, 1, False], (2, True), [2, 1.0], [2.0], [2, 1, -2], [2, 1, 4], [2, 3], [4], [-1]):
            refused(self, BadSigns, lambda: from_halves(signs))

    def test_halves_of_no_book(self):
        for signs in ([0], [1], [0, 2], [0, 0], [0, 2, 1], [1, 1], [2, 0], [2, 2], [2, 1, 1], [2, 1, 0, 0], [2, 1, 0, 2]):
            refused(self, BadSigns, lambda: from_halves(signs))

    def test_what_is_told_is_the_askers_and_what_is_handed_in_stays(self):
        told = halves(book=3)
        told.append(2)
        self.assertEqual(halves(3), [2, 1, 0])
        signs = [2, 1, 0]
        self.assertEqual(from_halves(signs=signs), 3)
        self.assertEqual(signs, [2, 1, 0])

    def test_the_first_number_is_the_halves_by_threes(self):
        for book in range(LAST + 1):
            self.assertTrue(same(even_first(book), BOOKS.index(book)))
            self.assertEqual(even_first(book), sum(sign * 3 ** k for k, sign in enumerate(halves(book)[::-1])))
        for book in far_books():
            number = even_first(book)
            self.assertEqual((even_book(number), even_place(number), even_nth(book, 0)), (book, 0, number))
            self.assertEqual(even_count(book, number), 0)
            self.assertEqual(even_ahead(book, number), None)
            self.assertEqual(even_behind(book, 0) if book else 0, number)


class TestNumbersOfABook(unittest.TestCase):
    def test_by_going_one_by_one(self):
        for book in range(LAST + 1):
            numbers = numbers_of(book)
            self.assertTrue(same([even_nth(book, j) for j in range(len(numbers))], numbers))
            self.assertGreaterEqual(even_nth(book, len(numbers)), BELOW)
            for bound in range(0, BELOW + 1, 1 if book < 4 else 17):
                less = [number for number in numbers if number < bound]
                self.assertTrue(same(even_count(book, bound), len(less)))
                self.assertTrue(same(even_ahead(book, bound), less[-1] if less else None))
                if numbers[-1] > bound:
                    self.assertEqual(even_behind(book, bound), min(number for number in numbers if number > bound))
                else:
                    self.assertEqual(even_behind(book, bound), even_nth(book, len(numbers)))
            for j, number in enumerate(numbers):
                self.assertTrue(same(even_place(number), j))
                self.assertEqual(even_behind(book, number), even_nth(book, j + 1))
                self.assertEqual(even_ahead(book, number), numbers[j - 1] if j else None)

    def test_books_that_no_number_below_has(self):
        for book in (LAST + 1, LAST + 20, 10 ** 199):
            for bound in (0, 1, BELOW):
                self.assertEqual(even_count(book, bound), 0)
                self.assertIsNone(even_ahead(book, bound))
                self.assertEqual(even_behind(book, bound), even_first(book))

    def test_book_0_has_the_numbers_without_a_two(self):
        for place in far_numbers(9, 15):
            number = int(bin(place)[2:], 3)
            self.assertEqual(even_nth(0, place), number)
            self.assertEqual(even_place(number), place)

    def test_far_numbers_by_what_is_told_alone(self):
        for book in far_books():
            last = -1
            for place in sorted({0, 1, 2, 3, 10 ** 50, *far_numbers(4, 5), 10 ** 200 - 1}):
                number = even_nth(book, place)
                self.assertGreater(number, last)
                last = number
                self.assertEqual((even_book(number), even_place(number)), (book, place))
                self.assertEqual((even_count(book, number), even_count(book, number + 1)), (place, place + 1))
                self.assertEqual(even_ahead(book, number), even_nth(book, place - 1) if place else None)
                self.assertEqual(even_behind(book, number), even_nth(book, place + 1))
                self.assertEqual(even_ahead(book, number + 1), number)

    def test_far_bounds(self):
        for bound in far_numbers(5, 20) + [3 ** 400, 3 ** 400 - 1]:
            for book in (0, 1, 2, 9, even_book(bound), even_reach(bound)):
                many = even_count(book, bound)
                behind, ahead = even_behind(book, bound), even_ahead(book, bound)
                self.assertEqual((even_book(behind), even_place(behind)), (book, many + (even_book(bound) == book)))
                self.assertGreater(behind, bound)
                if many:
                    self.assertEqual((even_book(ahead), even_place(ahead)), (book, many - 1))
                    self.assertLess(ahead, bound)
                else:
                    self.assertIsNone(ahead)
                step = even_count(book, bound + 1) - many
                self.assertEqual(step, int(even_book(bound) == book))

    def test_all_books_numbers_are_as_many_as_the_bound(self):
        for bound in (0, 1, 5, 80, 1000, 12345):
            self.assertEqual(sum(even_count(book, bound) for book in range((even_reach(bound) or 0) + 1)), bound)

    def test_by_names(self):
        self.assertEqual(even_first(book=2), 7)
        self.assertEqual(even_nth(book=1, place=2), 6)
        self.assertEqual(even_count(book=1, below=6), 2)
        self.assertEqual(even_behind(book=1, number=5), 6)
        self.assertEqual(even_ahead(book=1, number=5), 2)
        self.assertEqual(even_place(number=6), 2)
        self.assertEqual((even_reach(below=8), even_lacks(book=2)), (2, 0))


class TestReachAndLacks(unittest.TestCase):
    def test_reach_by_going_one_by_one(self):
        self.assertIsNone(even_reach(0))
        for bound in range(1, BELOW + 1):
            self.assertTrue(same(even_reach(bound), max(BOOKS[:bound])), bound)

    def test_reach_of_far_bounds(self):
        for bound in far_numbers(11, 30) + [3 ** 400, 3 ** 400 + 1, 3 ** 400 - 1, 10 ** 200 - 1]:
            reach = even_reach(bound)
            # Some number below has this book, and none has the next ones: each book's first number goes ahead.
            self.assertLess(even_first(reach), bound)
            for more in range(1, 6):
                self.assertGreaterEqual(even_first(reach + more), bound)
            self.assertGreaterEqual(even_reach(bound + 1), reach)
            self.assertEqual(even_reach(bound + 1), max(reach, even_book(bound)))

    def test_lacks_by_going_one_by_one(self):
        for book in range(LAST + 1):
            signs = {number % 3 for number in numbers_of(book)}
            self.assertNotIn(even_lacks(book), signs)
            self.assertIn(even_lacks(book), (0, 1, 2))
            if len(numbers_of(book)) > 6:
                self.assertEqual(signs | {even_lacks(book)}, {0, 1, 2})

    def test_lacks_of_far_books(self):
        for book in far_books():
            signs = {even_nth(book, place) % 3 for place in list(range(30)) + far_numbers(13, 30)}
            self.assertEqual(signs, {0, 1, 2} - {even_lacks(book)})
            self.assertIs(type(even_lacks(book)), int)


if __name__ == "__main__":
    unittest.main()
