import random
import unittest

from helper import ANYTHINGS, books_one_by_one, far_bars, far_numbers, otherwise, same, some_houses, with_tuples

from firstbooks.house import House
from firstbooks.papers import barred_by, shows_why, shows_whole, whole, why


class TestWhy(unittest.TestCase):
    def is_paper(self, bars, books, number, paper):
        """Look at a paper by the books told one by one."""
        if not (type(paper) is tuple and len(paper) == 2 and same(paper[0], books[number])):
            return False
        if not (type(paper[1]) in (list, tuple) and len(paper[1]) == books[number]):
            return False
        for lesser, row in enumerate(paper[1]):
            if not (type(row) is tuple and len(row) == 2 and same(row[0], lesser) and type(row[1]) is int):
                return False
            other = number ^ row[1]
            if row[1] not in bars or other >= number or books[other] != lesser:
                return False
        return True

    def test_by_going_one_by_one(self):
        for bars in some_houses():
            house = House(bars)
            books = books_one_by_one(bars, 2 * 2 ** house.height())
            for number in range(len(books)):
                paper = why(house, number)
                self.assertIsInstance(paper, tuple)
                self.assertIsInstance(paper[1], list)
                self.assertTrue(self.is_paper(bars, books, number, paper), (bars, number))
                self.assertIs(shows_why(house, number, paper), True)
                if books[number] == 0:
                    self.assertEqual(paper, (0, []))
                for book in list(range(house.books() + 2)) + [200]:
                    many = sum(1 for bar in bars if number ^ bar < number and books[number ^ bar] == book)
                    self.assertEqual(barred_by(house, number, book), many)
                self.assertEqual(barred_by(house, number, books[number]), 0)
            self.assertEqual(house, House(bars))

    def test_papers_with_one_thing_otherwise(self):
        pick = random.Random(5)
        for bars in some_houses()[1::7]:
            house = House(bars)
            books = books_one_by_one(bars, 2 ** (house.height() + 1))
            for number in [0, 1] + [pick.randrange(len(books)) for _ in range(5)]:
                for paper in otherwise(why(house, number)):
                    self.assertIs(shows_why(house, number, paper), self.is_paper(bars, books, number, paper), paper)

    def test_each_bar_in_each_row(self):
        for bars in some_houses()[120:]:
            house = House(bars)
            books = books_one_by_one(bars, 2 ** house.height())
            for number in (len(books) - 1, len(books) // 2, len(books) * 2 // 3):
                book, rows = why(house, number)
                for lesser in range(book):
                    for bar in range(2 * len(books)):
                        paper = (book, rows[:lesser] + [(lesser, bar)] + rows[lesser + 1:])
                        if bar < len(books):
                            fits = self.is_paper(bars, books, number, paper)
                        else:
                            fits = False
                        self.assertIs(shows_why(house, number, paper), fits)

    def test_a_bar_that_leads_on(self):
        # 1 and 3 go on from 2 to 3, and from 4 to 5: no less than the number.
        house = House([1, 3, 5])
        self.assertEqual(house.book_of(2), 0)
        self.assertTrue(shows_why(house, 1, (1, [(0, 1)])))
        self.assertFalse(shows_why(house, 1, (1, [(0, 3)])))
        self.assertFalse(shows_why(house, 1, (1, [(0, 5)])))

    def test_things_of_any_kind(self):
        for bars in ([], [1], [1, 2, 3]):
            for number in (0, 1, 3, 10 ** 199):
                for thing in ANYTHINGS:
                    self.assertIs(shows_why(House(bars), number, thing), False)
                    self.assertIs(shows_why(House(bars), number, (thing, [])), False)
                    self.assertIs(shows_why(House([1]), 1, (1, thing)), False)
                    self.assertIs(shows_why(House([1]), 1, (1, [thing])), False)
                    self.assertIs(shows_why(House([1]), 1, (1, [(thing, 1)])), False)
                    self.assertIs(shows_why(House([1]), 1, (1, [(0, thing)])), False)

    def test_lists_as_tuples_and_not_the_other_way(self):
        house = House([1, 2, 3, 9])
        paper = why(house, 3)
        self.assertTrue(paper[0] > 1)
        self.assertIs(shows_why(house, 3, with_tuples(paper)), True)
        self.assertIs(shows_why(house, 3, list(paper)), False)
        self.assertIs(shows_why(house, 3, (paper[0], [list(row) for row in paper[1]])), False)
        self.assertIs(shows_why(House(), 3, (0, ())), True)

    def test_true_is_no_number(self):
        house = House([1])
        self.assertTrue(shows_why(house, 1, (1, [(0, 1)])))
        for paper in ((True, [(0, 1)]), (1, [(False, 1)]), (1, [(0, True)])):
            self.assertIs(shows_why(house, 1, paper), False)
        self.assertIs(shows_why(house, 0, (False, [])), False)

    def test_far_numbers(self):
        for seed, many in ((1, 5), (2, 60), (3, 200)):
            house = House(far_bars(seed, many))
            for number in far_numbers(seed, 30) + [2 ** 190 - 1, 2 ** 189]:
                book, rows = why(house, number)
                self.assertEqual(book, house.book_of(number))
                self.assertEqual([lesser for lesser, _ in rows], list(range(book)))
                for lesser, bar in rows:
                    self.assertIn(bar, house.bars())
                    self.assertLess(number ^ bar, number)
                    self.assertEqual(house.book_of(number ^ bar), lesser)
                    self.assertGreaterEqual(barred_by(house, number, lesser), 1)
                self.assertTrue(shows_why(house, number, (book, rows)))
                self.assertFalse(shows_why(house, number, (book + 1, rows)))
                lowering = [bar for bar in house.bars() if number ^ bar < number]
                self.assertEqual(sum(barred_by(house, number, b) for b in range(house.books())), len(lowering))

    def test_asked_again_behind_a_turn(self):
        house = House([1, 2])
        self.assertEqual(why(house, 3), (0, []))
        house.put(3)
        self.assertEqual(why(house, 3), (3, [(0, 3), (1, 2), (2, 1)]))
        self.assertFalse(shows_why(house, 3, (0, [])))
        self.assertEqual(barred_by(house, 3, 0), 1)
        house.take(3)
        self.assertTrue(shows_why(house, 3, (0, [])))
        self.assertEqual(barred_by(house, 3, 0), 0)

    def test_what_is_told_is_the_askers_and_what_is_handed_in_stays(self):
        house = House([1, 2, 3])
        paper = why(house, 3)
        before = (paper[0], list(paper[1]))
        shows_why(house, 3, paper)
        self.assertEqual(paper, before)
        paper[1].append(7)
        self.assertEqual(why(house, 3), before)
        self.assertEqual(house, House([1, 2, 3]))

    def test_by_names(self):
        house = House([1, 2, 3])
        paper = why(house=house, number=3)
        self.assertIs(shows_why(house=house, number=3, paper=paper), True)
        self.assertEqual(barred_by(house=house, number=3, book=0), 1)
        self.assertIs(shows_whole(bars=[1, 2, 3], paper=whole(house=house)), True)


class TestWhole(unittest.TestCase):
    def is_whole(self, bars, books, paper):
        if type(paper) not in (list, tuple):
            return False
        tops = sorted({bar.bit_length() - 1 for bar in bars})
        if len(paper) != len(tops):
            return False
        for power, row in zip(tops, paper):
            if not (type(row) is tuple and len(row) == 3 and same(row[0], power) and same(row[1], books[2 ** power])):
                return False
            if not (type(row[2]) in (list, tuple) and len(row[2]) == row[1]):
                return False
            for book, bar in enumerate(row[2]):
                if not (type(bar) is int and bar in bars and 2 ** power <= bar < 2 ** (power + 1)):
                    return False
                if books[bar ^ 2 ** power] != book:
                    return False
        return True

    def test_by_going_one_by_one(self):
        pick = random.Random(6)
        for bars in some_houses():
            house = House(bars)
            books = books_one_by_one(bars, 64)
            paper = whole(house)
            self.assertIsInstance(paper, list)
            for row in paper:
                self.assertIsInstance(row[2], list)
            self.assertTrue(self.is_whole(bars, books, paper), bars)
            shuffled = list(bars)
            pick.shuffle(shuffled)
            for handed in (bars, shuffled, tuple(shuffled)):
                self.assertIs(shows_whole(handed, paper), True)
            self.assertIs(shows_whole(bars, with_tuples(paper)), True)
            self.assertEqual(house, House(bars))

    def test_papers_with_one_thing_otherwise(self):
        for bars in some_houses()[1::9] + [[1, 2, 3], [5, 7, 12, 13], [2, 3, 6]]:
            books = books_one_by_one(bars, 64)
            for paper in otherwise(whole(House(bars))):
                self.assertIs(shows_whole(bars, paper), self.is_whole(bars, books, paper), (bars, paper))

    def test_each_bar_at_each_place(self):
        for bars in some_houses()[128:]:
            books = books_one_by_one(bars, 64)
            paper = whole(House(bars))
            for at, (power, home, picked) in enumerate(paper):
                for place in range(home):
                    for bar in range(64):
                        row = (power, home, picked[:place] + [bar] + picked[place + 1:])
                        other = paper[:at] + [row] + paper[at + 1:]
                        self.assertIs(shows_whole(bars, other), self.is_whole(bars, books, other))

    def test_a_power_whose_home_is_none(self):
        # 3 alone keeps 2 out of no book: its other mark is in book 0.
        self.assertEqual(whole(House([3])), [(1, 1, [3])])
        # Beside 1, it keeps 2 out of book 1 alone.
        self.assertEqual(whole(House([1, 3])), [(0, 1, [1]), (1, 0, [])])
        self.assertIs(shows_whole([3, 1], [(0, 1, [1]), (1, 0, [])]), True)
        self.assertIs(shows_whole([3, 1], [(0, 1, [1])]), False)

    def test_houses_without_bars(self):
        self.assertEqual(whole(House()), [])
        for bars in ([], ()):
            self.assertIs(shows_whole(bars, []), True)
            self.assertIs(shows_whole(bars, ()), True)
            self.assertIs(shows_whole(bars, [(0, 0, [])]), False)
            for thing in ANYTHINGS:
                self.assertIs(shows_whole(bars, thing), isinstance(thing, (list, tuple)) and len(thing) == 0)

    def test_things_of_any_kind(self):
        self.assertIs(shows_whole([1], [(0, 1, [1])]), True)
        for thing in ANYTHINGS:
            self.assertIs(shows_whole([1], thing), False)
            self.assertIs(shows_whole([1], [thing]), False)
            self.assertIs(shows_whole([1], [(thing, 1, [1])]), False)
            self.assertIs(shows_whole([1], [(0, thing, [1])]), False)
            self.assertIs(shows_whole([1], [(0, 1, thing)]), isinstance(thing, (list, tuple)) and same(list(thing), [1]))
            self.assertIs(shows_whole([1], [(0, 1, [thing])]), False)

    def test_far_bars(self):
        for seed, many in ((1, 5), (2, 60), (3, 200)):
            bars = far_bars(seed, many)
            house = House(bars)
            paper = whole(house)
            self.assertEqual([row[0] for row in paper], sorted({bar.bit_length() - 1 for bar in bars}))
            for power, home, picked in paper:
                self.assertEqual(home, house.home(power))
                self.assertEqual([house.book_of(bar ^ 2 ** power) for bar in picked], list(range(home)))
            self.assertIs(shows_whole(bars, paper), True)
            self.assertIs(shows_whole(bars[1:], paper + paper[:1]), False)

    def test_what_is_told_is_the_askers_and_what_is_handed_in_stays(self):
        bars = [3, 1, 2]
        house = House(bars)
        paper = whole(house)
        shows_whole(bars, paper)
        self.assertEqual((bars, paper), ([3, 1, 2], [(0, 1, [1]), (1, 2, [2, 3])]))
        paper[1][2].append(9)
        paper.pop(0)
        self.assertEqual(whole(house), [(0, 1, [1]), (1, 2, [2, 3])])
        house.take(1)
        self.assertEqual(whole(house), [(1, 1, [2])])


if __name__ == "__main__":
    unittest.main()
