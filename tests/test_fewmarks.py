import random
import unittest
from itertools import combinations
from math import comb

from helper import (
    ANYTHINGS, books_one_by_one, crowded, far_bars, otherwise, refused, same, some_houses, with_tuples,
)

from firstbooks.errors import NoBook
from firstbooks.fewmarks import fewest_marks, shows_fewest, with_marks
from firstbooks.house import House
from firstbooks.shelf import count
from firstbooks.wishes import fewest


def ones(number):
    return bin(number).count("1")


def far_houses():
    told = [House(far_bars(seed, many)) for seed, many in enumerate((1, 5, 60, 200))]
    told.append(House(crowded([0, 1, 2, 3, 4, 5, 6]) + [2 ** 189, 2 ** 189 + 1, 2 ** 189 + 2]))
    # Homes of sums: 7 by one mark at a far power, and less by few.
    told.append(House(crowded([0, 40, 77]) + [2 ** 150 + k for k in (0, 1, 2 ** 40, 2 ** 77, 1 + 2 ** 40)]))
    return told


def lots_of(house):
    """Tell the books that have a number of no marks, of one and none of fewer, and so on, by their sums."""
    homes = {house.home(power) for power in range(190)}
    lots = [[0]]
    seen = {0}
    while len(seen) < house.books():
        new = {book ^ home for book in lots[-1] for home in homes} - seen
        lots.append(sorted(new))
        seen |= new
    return lots


class TestFewestMarks(unittest.TestCase):
    def test_by_going_one_by_one(self):
        for bars in some_houses()[::3] + [crowded([0, 1, 2, 5]), [1, 2, 3, 4, 8, 9, 10], [8, 9, 10, 11, 4, 5, 1]]:
            house = House(bars)
            books = books_one_by_one(bars, 2 ** (house.height() + 1))
            least = {}
            for number, book in enumerate(books):
                least[book] = min(least.get(book, (99, 0)), (ones(number), number))
            for book, (many, number) in least.items():
                lots = [sorted(other for other in least if least[other][0] == k) for k in range(many)]
                told = fewest_marks(house, book)
                self.assertTrue(same(told, (many, number, lots)), (bars, book, told))
                self.assertIs(shows_fewest(house, book, told), True)
            self.assertEqual(house, House(bars))

    def test_book_0(self):
        for house in far_houses() + [House(), House([1]), House([2, 3])]:
            self.assertTrue(same(fewest_marks(house, 0), (0, 0, [])))
            self.assertIs(shows_fewest(house, 0, (0, 0, [])), True)
            self.assertIs(shows_fewest(house, 0, (0, 0, ())), True)
            for paper in ((1, 1, [[0]]), (0, 1, []), (0, 0, [[]]), (0, 0, [[0]]), (False, 0, []), (0, False, []), [0, 0, []]):
                self.assertIs(shows_fewest(house, 0, paper), False)

    def test_far_houses(self):
        for house in far_houses():
            lots = lots_of(house)
            for many, books in enumerate(lots):
                for book in books[:20]:
                    told = fewest_marks(house, book)
                    self.assertTrue(same(told, (many, told[1], lots[:many])))
                    self.assertEqual((ones(told[1]), house.book_of(told[1])), (many, book))
                    self.assertIs(shows_fewest(house, book, told), True)

    def test_the_least_number_of_so_few_marks(self):
        for bars in (far_bars(5, 60, 30), far_bars(6, 200, 25), crowded([0, 1, 4, 20]) + [2 ** 23 + k for k in range(9)]):
            house = House(bars)
            least = {}
            for many in range(4):
                for some in combinations(range(house.height()), many):
                    number = sum(2 ** mark for mark in some)
                    book = house.book_of(number)
                    least[book] = min(least.get(book, (many, number)), (many, number))
            self.assertGreater(len(least), 2)
            for book, found in least.items():
                self.assertEqual(fewest_marks(house, book)[:2], found)

    def test_houses_of_many_homes(self):
        # 7 and 28 have all marks of 31 together, but their sum is 27.
        rows = [[1, 2, 4, 8, 16, 7, 28], [1, 2, 3, 3, 4, 7, 7, 5], [1, 2, 4, 8, 16, 32, 7, 56, 45, 18, 7]]
        pick = random.Random(1)
        for _ in range(12):
            homes, books = [], 1
            while len(homes) < 10:
                homes.append(pick.choice([books, books, pick.randrange(books + 1)]) if books < 32 else pick.randrange(32))
                books = max(books, 2 * homes[-1] if homes[-1] == books else 0)
            rows.append(homes)
        for homes in rows:
            house = House(fewest(homes))
            least = {}
            for number in range(2 ** len(homes)):
                book = house.book_of(number)
                least[book] = min(least.get(book, (99, 0)), (ones(number), number))
            for book, found in least.items():
                lots = [sorted(other for other in least if least[other][0] == k) for k in range(found[0])]
                self.assertTrue(same(fewest_marks(house, book), found + (lots,)), (homes, book))

    def test_fewer_marks_by_a_greater_number(self):
        # Book 3 has 3 = 2 ** 0 + 2 ** 1, and the greater 8 of a single mark.
        house = House([1, 2, 3, 8, 9, 10])
        self.assertEqual([house.home(power) for power in range(4)], [1, 2, 0, 3])
        self.assertEqual(fewest_marks(house, 3), (1, 8, [[0]]))
        self.assertEqual(fewest_marks(House([1, 2, 3]), 3), (2, 3, [[0], [1, 2]]))
        # Two powers of one home: the lesser is told.
        self.assertEqual(fewest_marks(House([1, 4]), 1), (1, 1, [[0]]))

    def test_papers_with_one_thing_otherwise(self):
        houses = [House(crowded([0, 1, 2])), House([1, 2, 3, 8, 9, 10]), House([4]), House(crowded([0, 3, 189]))]
        for house in houses:
            for book in range(house.books()):
                paper = fewest_marks(house, book)
                as_lists = (paper[0], paper[1], with_tuples(paper[2]))
                self.assertIs(shows_fewest(house, book, as_lists), True)
                self.assertIs(shows_fewest(house, book, paper[:2] + (tuple(paper[2]),)), True)
                for other in otherwise(paper):
                    fits = type(other) is tuple and len(other) == 3 and same(other[:2], paper[:2])
                    fits = fits and type(other[2]) in (list, tuple) and same(list(map(list_of, other[2])), paper[2])
                    self.assertIs(shows_fewest(house, book, other), fits, other)
                for other in range(house.books()):
                    self.assertIs(shows_fewest(house, other, paper), other == book)

    def test_things_of_any_kind(self):
        house = House([1, 2, 3])
        for thing in ANYTHINGS:
            for book in range(4):
                self.assertIs(shows_fewest(house, book, thing), False)
            for paper in ((thing, 3, [[0], [1, 2]]), (2, thing, [[0], [1, 2]]), (2, 3, thing), (2, 3, [thing, [1, 2]]),
                          (2, 3, [[thing], [1, 2]]), (2, 3, [[0], [1, thing]]), (2, 3, [[0], thing])):
                self.assertIs(shows_fewest(house, 3, paper), False)
        self.assertIs(shows_fewest(house, 3, (2, 3, [[0], [1, 2]])), True)
        self.assertIs(shows_fewest(house, 3, (2, 3, [[0], [2, 1]])), False)
        self.assertIs(shows_fewest(house, 3, (2, 3, [[False], [1, 2]])), False)
        self.assertIs(shows_fewest(house, 3, (2, 3, [[0], [True, 2]])), False)
        self.assertIs(shows_fewest(house, 1, (True, 1, [[0]])), False)
        self.assertIs(shows_fewest(house, 1, (1, True, [[0]])), False)

    def test_books_that_are_not_met_go_ahead_of_all_else(self):
        for bars in ([], [1], [1, 2, 3], far_bars(4, 200)):
            house = House(bars)
            for thing in ANYTHINGS + [house.books(), house.books() + 1, 10 ** 199]:
                refused(self, NoBook, lambda: fewest_marks(house, thing), book=thing)
                for paper in ANYTHINGS + [(0, 0, []), (1, 1, [[0]])]:
                    refused(self, NoBook, lambda: shows_fewest(house, thing, paper), book=thing)
                for many, power in ((0, 0), (1, 60), (10 ** 199, 5)):
                    refused(self, NoBook, lambda: with_marks(house, thing, many, power), book=thing)
            self.assertEqual(house, House(bars))

    def test_what_is_told_is_the_askers_and_what_is_handed_in_stays(self):
        house = House([1, 2, 3])
        told = fewest_marks(house=house, book=3)
        told[2][1].append(9)
        told[2].append([7])
        self.assertEqual(fewest_marks(house, 3), (2, 3, [[0], [1, 2]]))
        paper = (2, 3, [[0], [1, 2]])
        self.assertIs(shows_fewest(house=house, book=3, paper=paper), True)
        self.assertEqual((paper, house.bars()), ((2, 3, [[0], [1, 2]]), [1, 2, 3]))

    def test_asked_again_behind_a_turn(self):
        house = House([1, 2, 3])
        self.assertEqual(fewest_marks(house, 3)[0], 2)
        for bar in (8, 9, 10):
            house.put(bar)
        self.assertEqual(fewest_marks(house, 3), (1, 8, [[0]]))
        house.take(9)
        self.assertEqual(fewest_marks(house, 3)[0], 2)


def list_of(thing):
    return list(thing) if isinstance(thing, tuple) else thing


class TestWithMarks(unittest.TestCase):
    def test_by_going_one_by_one(self):
        for bars in some_houses()[::6] + [crowded([0, 1, 2, 5])]:
            house = House(bars)
            books = books_one_by_one(bars, 2 ** 8)
            for power in range(9):
                for book in range(house.books()):
                    for many in range(power + 2):
                        least = [n for n in range(2 ** power) if books[n] == book and ones(n) == many]
                        self.assertTrue(same(with_marks(house, book, many, power), len(least)))
            self.assertEqual(house, House(bars))

    def test_all_books_together(self):
        for house in far_houses():
            for power in (0, 1, 7, 33, 59, 60):
                for many in (0, 1, 2, power // 2, power, power + 1):
                    told = [with_marks(house, book, many, power) for book in range(house.books())]
                    self.assertEqual(sum(told), comb(power, many))

    def test_all_marks_together(self):
        for house in far_houses():
            for power in (0, 1, 13, 60):
                for book in {0, 1, house.books() // 2, house.books() - 1}:
                    told = [with_marks(house, book, many, power) for many in range(power + 1)]
                    self.assertEqual(sum(told), count(house, book, 2 ** power))

    def test_more_marks_than_powers(self):
        for house in (House(), House([1]), House(crowded([0, 30, 60]))):
            for book in range(house.books()):
                for power in (0, 5, 60):
                    for many in (power + 1, 61, 200, 10 ** 199):
                        self.assertEqual(with_marks(house, book, many, power), 0)
                self.assertEqual(with_marks(house, book, 0, 60), int(book == 0))
                self.assertEqual(with_marks(house, book, 0, 0), int(book == 0))

    def test_a_house_without_bars(self):
        for power in range(61):
            for many in range(power + 1):
                self.assertEqual(with_marks(House(), 0, many, power), comb(power, many))

    def test_a_book_beyond_the_powers(self):
        # The book is met, but by none of these numbers.
        house = House([2 ** 60])
        self.assertEqual([with_marks(house, 1, many, 60) for many in range(62)], [0] * 62)
        house = House([2 ** 59])
        self.assertEqual([with_marks(house, 1, many, 60) for many in range(1, 61)], [comb(59, k) for k in range(60)])

    def test_by_names(self):
        self.assertEqual(with_marks(house=House([1]), book=1, many=2, power=4), 3)


if __name__ == "__main__":
    unittest.main()
