import random
import unittest

from helper import ANYTHINGS, all_sets, books_one_by_one, some_houses

from firstbooks.errors import BadBar, NoBar, Twice
from firstbooks.house import House


class TestBars(unittest.TestCase):
    def refused(self, error, base, thing, ask):
        with self.assertRaises(base) as caught:
            ask()
        self.assertIs(caught.exception.__class__, error)
        self.assertEqual(error.__bases__, (base,))
        self.assertIs(caught.exception.bar, thing)

    def test_put_in_and_taken_out(self):
        house = House()
        self.assertEqual((house.bars(), len(house)), ([], 0))
        for bar in (9, 2, 2 ** 190 - 1, 1, 5):
            self.assertIsNone(house.put(bar))
        self.assertEqual((house.bars(), len(house)), ([1, 2, 5, 9, 2 ** 190 - 1], 5))
        self.assertIsNone(house.take(5))
        self.assertIsNone(house.take(1))
        self.assertEqual((house.bars(), len(house)), ([2, 9, 2 ** 190 - 1], 3))
        house.put(5)
        self.assertEqual(house.bars(), [2, 5, 9, 2 ** 190 - 1])

    def test_no_bars_are_refused(self):
        for thing in ANYTHINGS + [0, 2 ** 190, 2 ** 190 + 1, 10 ** 199]:
            for bars in ([], [1], [1, 2, 3]):
                house = House(bars)
                self.refused(BadBar, ValueError, thing, lambda: house.put(thing))
                self.assertEqual((house.bars(), house.book_of(1)), (bars, House(bars).book_of(1)))

    def test_a_bar_that_is_in_is_refused(self):
        house = House([3, 7, 2 ** 189])
        for bar in (3, 7, 2 ** 189):
            self.refused(Twice, LookupError, bar, lambda: house.put(bar))
        self.assertEqual(house.bars(), [3, 7, 2 ** 189])

    def test_what_is_not_in_is_refused(self):
        for thing in ANYTHINGS + [0, 4, 2 ** 190, 10 ** 199]:
            for bars in ([], [1], [1, 2, 3]):
                house = House(bars)
                self.refused(NoBar, KeyError, thing, lambda: house.take(thing))
                self.assertEqual((house.bars(), house.home(0)), (bars, House(bars).home(0)))
        house = House([6])
        house.take(6)
        six = 6
        self.refused(NoBar, KeyError, six, lambda: house.take(six))

    def test_at_the_making(self):
        self.assertEqual(House([4, 1]).bars(), [1, 4])
        self.assertEqual(House((4, 1)).bars(), [1, 4])
        self.assertEqual(House(bars=(4, 1)).bars(), [1, 4])
        for thing in ANYTHINGS + [0, 2 ** 190]:
            self.refused(BadBar, ValueError, thing, lambda: House([4, thing, 4]))
        far = 2 ** 189 + 1
        self.refused(Twice, LookupError, far, lambda: House([1, far, far, 0]))

    def test_a_list_changed_behind_changes_nothing(self):
        bars = [5, 2]
        house = House(bars)
        self.assertEqual(bars, [5, 2])
        bars.append(1)
        bars[0] = 7
        self.assertEqual(house.bars(), [2, 5])
        house.put(3)
        self.assertEqual(bars, [7, 2, 1])

    def test_told_lists_are_the_askers(self):
        house = House([1, 2, 3, 12])
        for ask in (house.bars, house.new, house.checks):
            told = ask()
            self.assertIsInstance(told, list)
            before = list(told)
            told.append(77)
            told[0] = 99
            self.assertEqual(ask(), before)
        self.assertEqual(house, House([1, 2, 3, 12]))

    def test_alike_by_bars_alone(self):
        one = House([1, 2, 9])
        other = House([9])
        self.assertFalse(one == other)
        self.assertTrue(one != other)
        other.put(2)
        other.put(4)
        other.put(1)
        other.take(4)
        one.book_of(77)
        self.assertTrue(one == other)
        self.assertFalse(one != other)
        self.assertTrue(House() == House([]))
        # 3 alone and 3 with 2: unlike bars, whatever their books are.
        self.assertFalse(House([2]) == House([2, 3]))

    def test_unlike_what_is_no_house(self):
        for thing in ANYTHINGS + [[1, 2], (1, 2)]:
            self.assertIs(House([1, 2]) == thing, False)
            self.assertIs(House() == thing, False)
            self.assertIs(House() != thing, True)


class TestBooks(unittest.TestCase):
    def check(self, house):
        """Look at everything that the house tells, by going one by one."""
        bars = house.bars()
        height = max([bar.bit_length() for bar in bars], default=0)
        below = 2 ** (height + 1)
        books = books_one_by_one(bars, below)
        self.assertEqual([house.book_of(number) for number in range(below)], books)
        homes = [books[2 ** power] for power in range(height + 1)]
        self.assertEqual([house.home(power) for power in range(height + 1)], homes)
        self.assertEqual([house.home(power) for power in (height, height + 1, 190, 200)], [0] * 4)
        self.assertEqual(house.height(), height)
        new = [p for p in range(height + 1) if books[2 ** p] not in books[:2 ** p]]
        self.assertEqual(house.new(), new)
        self.assertEqual([homes[p] for p in new], [2 ** k for k in range(len(new))])
        self.assertEqual(house.books(), len(set(books)))
        self.assertEqual(sorted(set(books)), list(range(house.books())))
        self.assertLessEqual(house.books(), len(bars) + 1)
        checks = house.checks()
        self.assertEqual(len(checks), len(new))
        for mark, check in enumerate(checks):
            self.assertEqual(check, sum(2 ** p for p, home in enumerate(homes) if home >> mark & 1))
        for number in range(min(below, 64)):
            odd = [bin(number & check).count("1") % 2 for check in checks]
            self.assertEqual(sum(2 ** k for k, one in enumerate(odd) if one), books[number])

    def test_houses_of_few_marks(self):
        for bars in some_houses():
            self.check(House(bars))

    def test_a_house_without_bars(self):
        house = House()
        self.assertEqual((house.height(), house.new(), house.books(), house.checks()), (0, [], 1, []))
        self.assertEqual([house.home(power) for power in (0, 1, 189, 200)], [0, 0, 0, 0])
        self.assertEqual([house.book_of(number) for number in (0, 1, 10 ** 199)], [0, 0, 0])
        self.assertFalse(house.sees(3, 3))
        self.check(house)

    def test_a_house_of_one_bar(self):
        house = House([6])
        self.assertEqual([house.book_of(n) for n in range(8)], books_one_by_one([6], 8))
        self.assertEqual((house.home(2), house.height(), house.new()), (1, 3, [2]))

    def test_sees(self):
        for bars in all_sets(range(1, 6)):
            house = House(bars)
            for number in range(9):
                for other in range(9):
                    self.assertIs(house.sees(number, other), number ^ other in bars)
        house = House([2 ** 189 + 1])
        far = 10 ** 199
        self.assertIs(house.sees(far, far ^ (2 ** 189 + 1)), True)
        self.assertIs(house.sees(far, far ^ 2 ** 189), False)

    def test_asked_again_behind_turns(self):
        pick = random.Random(3)
        house = House()
        for _ in range(150):
            bar = pick.randrange(1, 32)
            if bar in house.bars():
                house.take(bar)
            else:
                house.put(bar)
            self.check(house)

    def test_what_is_refused_changes_no_book(self):
        house = House([1, 2, 3, 8, 13])
        before = [house.book_of(n) for n in range(40)]
        for ask in (lambda: house.put(0), lambda: house.put(2), lambda: house.take(4), lambda: house.take(None)):
            with self.assertRaises((ValueError, LookupError)):
                ask()
            self.assertEqual([house.book_of(n) for n in range(40)], before)

    def test_by_names(self):
        house = House(bars=[1])
        house.put(bar=2)
        house.put(bar=3)
        house.take(bar=2)
        self.assertEqual(house.bars(), [1, 3])
        self.assertTrue(house.sees(number=5, other=6))
        self.assertEqual(house.book_of(number=2), House([1, 3]).book_of(2))
        self.assertEqual(house.home(power=0), 1)


if __name__ == "__main__":
    unittest.main()
