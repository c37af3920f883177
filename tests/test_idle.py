import unittest

from helper import ANYTHINGS, all_sets, books_one_by_one, crowded, far_bars, some_houses

from firstbooks.errors import BadBar, Low, TooMany
from firstbooks.house import House
from firstbooks.idle import core, how_many_alike, how_many_cores, idle_bars, is_core, turning


class TestTurning(unittest.TestCase):
    def test_by_going_with_and_without(self):
        for bars in some_houses():
            house = House(bars)
            below = 2 ** (house.height() + 1)
            books = books_one_by_one(bars, below)
            idle = []
            for bar in range(1, below):
                turned = [one for one in bars if one != bar] if bar in bars else bars + [bar]
                others = books_one_by_one(turned, below)
                changed = [number for number in range(below) if books[number] != others[number]]
                told = turning(house, bar)
                if not changed:
                    self.assertIsNone(told)
                    if bar in bars:
                        idle.append(bar)
                    continue
                self.assertIsInstance(told, tuple)
                self.assertEqual((2 ** told[0], told[1]), (changed[0], others[changed[0]]))
            self.assertEqual(idle_bars(house), idle)
            self.assertEqual(house, House(bars))

    def test_no_bars_are_refused(self):
        for thing in ANYTHINGS + [0, 2 ** 190, 10 ** 199]:
            for bars in ([], [1], [1, 2, 3]):
                house = House(bars)
                with self.assertRaises(ValueError) as caught:
                    turning(house, thing)
                self.assertIs(caught.exception.__class__, BadBar)
                self.assertIs(caught.exception.bar, thing)
                self.assertEqual(house, House(bars))

    def test_far_bars(self):
        for seed, many in ((1, 5), (2, 60), (3, 200)):
            bars = far_bars(seed, many)
            house = House(bars)
            idle = idle_bars(house)
            for bar in bars + far_bars(seed + 10, 20) + [2 ** 190 - 1, 2 ** 189]:
                other = House(bars)
                if bar in bars:
                    other.take(bar)
                else:
                    other.put(bar)
                changed = [p for p in range(190) if other.home(p) != house.home(p)]
                told = turning(house, bar)
                if changed:
                    self.assertEqual(told, (changed[0], other.home(changed[0])))
                    self.assertEqual(told[0], bar.bit_length() - 1)
                else:
                    self.assertIsNone(told)
                self.assertEqual(bar in idle, bar in bars and not changed)
            self.assertEqual(idle, sorted(idle))

    def test_two_idle_ones_may_matter(self):
        # 4 and 6 both keep the number 4 out of book 0.
        house = House([4, 6])
        self.assertEqual(idle_bars(house), [4, 6])
        house.take(4)
        self.assertEqual(idle_bars(house), [])
        self.assertEqual(turning(house, 6), (2, 0))
        self.assertIsNone(turning(house, 4))

    def test_told_lists_are_the_askers(self):
        house = House([4, 6, 1])
        for ask in (idle_bars, core):
            told = ask(house)
            before = list(told)
            self.assertIsInstance(told, list)
            told.append(9)
            told[0] = 7
            self.assertEqual(ask(house), before)
        self.assertEqual(house, House([1, 4, 6]))

    def test_by_names(self):
        house = House([4, 6])
        self.assertIsNone(turning(house=house, bar=4))
        self.assertEqual(idle_bars(house=house), [4, 6])
        self.assertIs(is_core(house=house, bars=core(house=house)), True)
        self.assertEqual(how_many_cores(house=house), 2)
        self.assertEqual(how_many_alike(house=house, powers=3), 15)


class TestCores(unittest.TestCase):
    def cores_of(self, bars):
        """Tell the cores by all lists of the bars."""
        books = books_one_by_one(bars, 16)
        alike = [some for some in all_sets(bars) if books_one_by_one(some, 16) == books]
        told = []
        for some in alike:
            if not any([one for one in some if one != bar] in alike for bar in some):
                told.append(some)
        return told

    def some_small(self):
        return all_sets(range(1, 8)) + [[1, 2, 3, 9, 13], [8, 9, 10, 11], [4, 5, 6, 7, 12, 15], [1, 8, 12, 14, 15]]

    def test_by_all_lists_of_bars(self):
        for bars in self.some_small():
            house = House(bars)
            cores = self.cores_of(bars)
            self.assertIn(core(house), cores)
            self.assertEqual(how_many_cores(house), len(cores))
            for some in all_sets(bars):
                self.assertIs(is_core(house, some), some in cores)
                self.assertIs(is_core(house, tuple(some)), some in cores)
                if len(some) > 1:
                    self.assertIs(is_core(house, some[::-1]), False)
            self.assertEqual(house, House(bars))

    def test_lists_of_no_bars_of_the_house(self):
        for bars in self.some_small()[::5]:
            house = House(bars)
            told = core(house)
            for place in range(len(told)):
                for other in (0, -1, told[place] + 16, None, str(told[place]), float(told[place]), [told[place]]):
                    self.assertIs(is_core(house, told[:place] + [other] + told[place + 1:]), False)
                self.assertIs(is_core(house, told[:place] + told[place + 1:]), False)
                self.assertIs(is_core(house, told[:place] + [told[place]] + told[place:]), False)
            self.assertIs(is_core(house, told + [2 ** 60]), False)

    def test_unlike_bars_of_one_choice(self):
        # 4 and 6 keep the number 4 out of one book: having both does not make up for 1.
        house = House([1, 4, 6])
        self.assertEqual(how_many_cores(house), 2)
        self.assertIs(is_core(house, [1, 4]), True)
        self.assertIs(is_core(house, [4, 6]), False)

    def test_things_of_any_kind(self):
        for bars in ([], [1], [1, 2, 3]):
            for thing in ANYTHINGS:
                fits = isinstance(thing, (list, tuple)) and list(thing) == bars
                self.assertIs(is_core(House(bars), thing), fits)
        for thing in ANYTHINGS:
            self.assertIs(is_core(House([1]), [thing]), False)
            self.assertIs(is_core(House([1, 2, 3]), [1, thing, 3]), False)
        self.assertIs(is_core(House([1]), [True]), False)
        self.assertIs(is_core(House([1]), [1]), True)

    def test_far_cores(self):
        for seed, many in ((1, 5), (2, 60), (3, 200)):
            bars = far_bars(seed, many)
            house = House(bars)
            told = core(house)
            self.assertEqual(told, sorted(told))
            self.assertIs(is_core(house, told), True)
            self.assertEqual(len(told), sum(house.home(power) for power in range(190)))
            alone = House(told)
            self.assertEqual([alone.home(p) for p in range(190)], [house.home(p) for p in range(190)])
            self.assertEqual(idle_bars(alone), [])
            self.assertEqual(how_many_cores(alone), 1)

    def test_many_cores(self):
        # A hundred bars of one top mark, all in book 0, and this for two powers.
        bars = [2 ** 100 + k for k in range(100)]
        self.assertEqual(how_many_cores(House(bars)), 100)
        bars = bars + [2 ** 150 + 2 * k for k in range(100)]
        self.assertEqual(how_many_cores(House(bars)), 10000)

    def test_asked_again_behind_a_turn(self):
        house = House([4, 6])
        self.assertEqual(how_many_cores(house), 2)
        house.put(7)
        self.assertEqual((how_many_cores(house), idle_bars(house)), (3, [4, 6, 7]))
        house.put(2)
        # Now 6 and 7 keep the number 4 out of book 1, and 4 out of book 0.
        self.assertEqual((how_many_cores(house), idle_bars(house)), (2, [6, 7]))
        self.assertIs(is_core(house, [2, 4, 7]), True)
        house.take(2)
        self.assertIs(is_core(house, [2, 4, 7]), False)
        self.assertIs(is_core(house, [7]), True)


class TestHowManyAlike(unittest.TestCase):
    def test_by_all_houses_of_up_to_three_powers(self):
        for powers in range(4):
            counts = {}
            told = {}
            for bars in all_sets(range(1, 2 ** powers)):
                homes = tuple(books_one_by_one(bars, 2 ** powers)[2 ** p] for p in range(powers))
                counts[homes] = counts.get(homes, 0) + 1
                told[homes] = bars
            for homes, bars in told.items():
                self.assertEqual(how_many_alike(House(bars), powers), counts[homes])

    def test_lesser_houses_in_more_powers(self):
        counts = {}
        for bars in all_sets(range(1, 8)):
            homes = tuple(House(bars).home(p) for p in range(3))
            counts[homes] = counts.get(homes, 0) + 1
        for bars in all_sets(range(1, 4)):
            house = House(bars)
            self.assertEqual(how_many_alike(house, 3), counts[(house.home(0), house.home(1), 0)])
            self.assertEqual(house, House(bars))

    def all_homes(self, powers):
        """Tell all homes that a house below 2 ** powers can have."""
        told = [[]]
        for _ in range(powers):
            told = [homes + [home] for homes in told for home in range(2 ** sum(1 for k in (1, 2, 4, 8) if k in homes) + 1)]
        return told

    def test_all_houses_are_counted_once(self):
        # Each house of four powers has some homes: the counts come to 2 ** 15.
        total = 0
        for homes in self.all_homes(4):
            bars = []
            for power, home in enumerate(homes):
                lower = books_one_by_one(bars, 2 ** power)
                bars = bars + [2 ** power + lower.index(book) for book in range(home)]
            self.assertEqual([House(bars).home(p) for p in range(4)], homes)
            total += how_many_alike(House(bars), 4)
        self.assertEqual(total, 2 ** 15)

    def test_up_to_twelve(self):
        self.assertEqual([how_many_alike(House(), powers) for powers in range(13)], [1] * 13)
        # Bars of the top mark 0 to 11 that keep it out of book 1 alone.
        self.assertEqual(how_many_alike(House([1]), 12), 2 ** (2 ** 11 - 1))
        self.assertEqual(how_many_alike(House(crowded([0, 1])), 12), 2 ** (3 * sum(2 ** k for k in range(10))))
        # With 2 ** 11 in, there is none of 2 ** 11 numbers but all of book 0.
        self.assertEqual(how_many_alike(House([2 ** 11]), 12), 2 ** (2 ** 11) - 1)

    def test_low(self):
        for bars, height in (([1], 1), ([5], 3), ([2 ** 189], 190), ([2 ** 13], 14)):
            for powers in (0, height - 1):
                with self.assertRaises(RuntimeError) as caught:
                    how_many_alike(House(bars), powers)
                self.assertIs(caught.exception.__class__, Low)
                self.assertEqual(caught.exception.powers, powers)
        # Both are due: the one told first goes.
        with self.assertRaises(Low):
            how_many_alike(House([2 ** 14]), 13)

    def test_too_many(self):
        for bars in ([], [1], [2 ** 11], [2 ** 12]):
            for powers in (13, 14, 200):
                with self.assertRaises(ArithmeticError) as caught:
                    how_many_alike(House(bars), powers)
                self.assertIs(caught.exception.__class__, TooMany)
                self.assertEqual(caught.exception.many, powers)

    def test_asked_again_behind_a_turn(self):
        house = House([1])
        self.assertEqual(how_many_alike(house, 2), 2)
        house.put(2)
        before = house.bars()
        self.assertEqual(how_many_alike(house, 2), 1)
        self.assertEqual(house.bars(), before)
        house.take(2)
        self.assertEqual(how_many_alike(house, 2), 2)


if __name__ == "__main__":
    unittest.main()
