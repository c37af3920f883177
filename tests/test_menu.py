import random
import unittest

from helper import ANYTHINGS, all_homes, all_sets, crowded, far_bars, homes_one_by_one, refused, same

from firstbooks.errors import BadBar, CantBe, Twice
from firstbooks.house import House
from firstbooks.idle import core, how_many_alike
from firstbooks.wishes import fewest, of_menu

BY_POWERS = [all_homes(powers) for powers in range(4)]
HOMES_OF = {tuple(bars): homes for table in BY_POWERS for homes, houses in table.items() for bars in houses}


def homes_of(bars, powers):
    """Tell the homes that bars below 8 make, by going through all numbers."""
    return (HOMES_OF[tuple(sorted(bars))] + (0, 0, 0))[:powers]


def reason(homes, menu):
    """Tell the least power and book that no set of the menu gives, by all sets."""
    for power in range(len(homes)):
        if any(homes_of(some, power + 1) == homes[:power + 1] for some in all_sets(menu)):
            continue
        ahead = next(some for some in all_sets(menu) if homes_of(some, power) == homes[:power])
        led = []
        for bar in menu:
            if bar.bit_length() == power + 1:
                led.append(House(ahead).book_of(bar - 2 ** power) if power else 0)
        return power, min(book for book in range(homes[power]) if book not in led)


def some_menus():
    pick = random.Random(8)
    told = [[], [1], [7, 6, 5, 4, 3, 2, 1], [1, 2, 3, 4], [4, 5, 6, 7], [5, 1, 3, 6]]
    for many in (2, 3, 4, 5, 5, 6, 6, 6):
        told.append(pick.sample(range(1, 8), many))
    return told


class TestMenu(unittest.TestCase):
    def test_by_all_sets_of_a_small_menu(self):
        none = 0
        for menu in some_menus():
            for powers in range(4):
                near = [bar for bar in menu if bar < 2 ** powers]
                for homes in BY_POWERS[powers]:
                    fit = [some for some in all_sets(near) if homes_of(some, powers) == homes]
                    told = of_menu(list(homes), near)
                    self.assertTrue(same(of_menu(homes, tuple(near)), told))
                    if not fit:
                        self.assertTrue(same(told, ("none",) + reason(homes, near)), (homes, near, told))
                        self.assertEqual(of_menu(list(homes), near, prices=[3] * len(near)), told)
                        none += 1
                        continue
                    self.assertTrue(type(told) is tuple and len(told) == 4 and told[0] == "bars")
                    few, most, many = told[1:]
                    self.assertIn(few, [sorted(some) for some in fit])
                    self.assertEqual(len(few), min(map(len, fit)))
                    self.assertTrue(same(most, sorted(max(fit, key=len))))
                    self.assertTrue(same(many, len(fit)))
        self.assertGreater(none, 50)

    def test_prices_by_all_sets(self):
        pick = random.Random(2)
        for menu in some_menus():
            for homes in BY_POWERS[3]:
                fit = [some for some in all_sets(menu) if homes_of(some, 3) == homes]
                if not fit:
                    continue
                for greatest in (0, 1, 3, 10 ** 199):
                    prices = [pick.randrange(greatest + 1) for _ in menu]
                    costs = dict(zip(menu, prices))
                    least = min((sum(costs[bar] for bar in some), len(some)) for some in fit)
                    told = of_menu(list(homes), menu, prices=prices)
                    self.assertTrue(same(of_menu(homes, tuple(menu), prices=tuple(prices)), told))
                    self.assertTrue(type(told) is tuple and len(told) == 5 and told[0] == "bars")
                    word, few, cost, most, many = told
                    self.assertIn(few, [sorted(some) for some in fit])
                    self.assertTrue(same(cost, least[0]))
                    self.assertEqual((sum(costs[bar] for bar in few), len(few)), least)
                    self.assertEqual((most, many), (sorted(max(fit, key=len)), len(fit)))

    def test_prices_go_by_the_places_of_the_menu(self):
        self.assertEqual(of_menu([0, 1], [3, 2], prices=[5, 9]), ("bars", [3], 5, [2, 3], 3))
        self.assertEqual(of_menu([0, 1], [2, 3], prices=[5, 9]), ("bars", [2], 5, [2, 3], 3))
        self.assertEqual(of_menu([0, 1], [3, 2], prices=[9, 5]), ("bars", [2], 5, [2, 3], 3))
        # A bar without a price is no reason to take two.
        self.assertEqual(len(of_menu([0, 1], [3, 2], prices=[0, 0])[1]), 1)
        self.assertEqual(of_menu([], [], prices=[]), ("bars", [], 0, [], 1))
        self.assertEqual(of_menu([], [], prices=()), ("bars", [], 0, [], 1))

    def test_empty_menus(self):
        self.assertEqual(of_menu([], []), ("bars", [], [], 1))
        self.assertEqual(of_menu([0] * 190, []), ("bars", [], [], 1))
        self.assertEqual(of_menu((0, 0, 1), ()), ("none", 2, 0))

    def test_bars_that_lead_to_a_wished_home_stay_out(self):
        self.assertEqual(of_menu([0, 0], [2, 3]), ("bars", [], [], 1))
        self.assertEqual(of_menu([1, 0], [2, 1, 3]), ("bars", [1], [1, 3], 2))
        self.assertEqual(of_menu([1, 1], [2, 1, 3]), ("bars", [1, 2], [1, 2], 1))
        self.assertEqual(of_menu([1, 2], [3, 1]), ("none", 1, 0))
        self.assertEqual(of_menu([1, 2], [2, 1]), ("none", 1, 1))
        self.assertEqual(of_menu([1, 2], [2, 3]), ("none", 0, 0))

    def test_far_menus(self):
        for seed, many in ((1, 5), (2, 60), (3, 200)):
            bars = far_bars(seed, many)
            house = House(bars)
            homes = [house.home(power) for power in range(190)]
            prices = [(17 * k) % 23 * 10 ** 198 for k in range(many)]
            word, few, most, sets = of_menu(homes, bars)
            self.assertEqual((len(few), most), (len(core(house)), sorted(bars)))
            made = House(few)
            self.assertEqual([made.home(power) for power in range(190)], homes)
            costs = dict(zip(bars, prices))
            told = of_menu(homes, bars, prices=prices)
            self.assertEqual((told[2], told[3:]), (sum(costs[bar] for bar in told[1]), (most, sets)))
            made = House(told[1])
            self.assertEqual([made.home(power) for power in range(190)], homes)
            self.assertLessEqual(told[2], sum(costs[bar] for bar in few))
            # Another bar for the same book costs as much or more.
            for bar in told[1]:
                for other in bars:
                    swapped = House([one for one in told[1] if one not in (bar, other)] + [other])
                    if [swapped.home(power) for power in range(190)] == homes:
                        self.assertGreaterEqual(costs[other], costs[bar])

    def test_a_menu_of_all_bars_makes_all_houses(self):
        menu = crowded(range(7))
        for homes in ([0] * 7, [1, 2, 4, 8, 16, 32, 64], [0, 1, 0, 2, 3, 1, 4], [1] * 7, [1, 2, 1, 0, 3, 4, 5]):
            word, few, most, many = of_menu(homes, menu)
            self.assertEqual(many, how_many_alike(House(fewest(homes)), 7))
            self.assertEqual(len(few), sum(homes))
            self.assertEqual([House(most).home(power) for power in range(7)], homes)
            for bar in menu:
                if bar not in most:
                    self.assertNotEqual([House(most + [bar]).home(power) for power in range(7)], homes)

    def test_many_sets_of_a_far_menu(self):
        menu = [2 ** 189 + k for k in range(200)]
        self.assertEqual(of_menu([0] * 189 + [1], menu)[2:], (menu, 2 ** 200 - 1))
        self.assertEqual(of_menu([1] + [0] * 188 + [1], menu + [1])[3], 2 ** 100 - 1)
        self.assertEqual(of_menu([1] + [0] * 189, menu + [1])[2:], ([1] + menu[1::2], 2 ** 100))
        self.assertEqual(of_menu([1] + [0] * 188 + [2], menu + [1])[3], (2 ** 100 - 1) ** 2)
        self.assertEqual(of_menu([0] * 190, menu), ("bars", [], [], 1))
        # A wished home of many figures is refused at once, or wants a book at once.
        self.assertEqual(of_menu([2 ** k for k in range(190)], menu), ("none", 0, 0))
        self.assertEqual(of_menu([2 ** k for k in range(190)], crowded(range(6))), ("none", 6, 0))
        self.assertEqual(of_menu([1, 2] + [0] * 187 + [4], [1, 2, 3] + menu[:2]), ("none", 189, 2))

    def test_what_cant_be_goes_ahead(self):
        for homes, place in (([2], 0), ([0, 2], 1), ([1, 2, 5], 2), ([10 ** 199, 1], 0)):
            for menu in ([], [1], [0], [True], [None, 1], [1, 1], [2 ** 190]):
                refused(self, CantBe, lambda: of_menu(homes, menu), place=place)
                refused(self, CantBe, lambda: of_menu(homes, menu, prices=[1] * len(menu)), place=place)

    def test_things_that_are_no_bars_of_a_menu(self):
        for thing in ANYTHINGS + [0, 4, 5, 2 ** 189, 2 ** 190, 10 ** 199]:
            for menu in ([thing], [1, thing], [thing, 1], [1, 3, thing, 2], (1, thing)):
                refused(self, BadBar, lambda: of_menu([1, 0], menu), bar=thing)
                refused(self, BadBar, lambda: of_menu([1, 2], menu, prices=[1] * len(menu)), bar=thing)
            # Ahead of a bar that stands twice, and of what no set gives.
            refused(self, BadBar, lambda: of_menu([1, 2], [1, 1, thing]), bar=thing)
            for other in (None, 0, 8, "1"):
                refused(self, BadBar, lambda: of_menu([1, 2], [1, thing, other]), bar=thing)
                refused(self, BadBar, lambda: of_menu([1, 2], [other, thing]), bar=other)
        refused(self, BadBar, lambda: of_menu([], [1]), bar=1)
        self.assertEqual(of_menu([0] * 190, [2 ** 190 - 1])[0], "bars")
        far = 2 ** 189
        refused(self, BadBar, lambda: of_menu([0] * 189, [far]), bar=far)

    def test_bars_that_stand_twice(self):
        for menu, bar in (([1, 1], 1), ([3, 1, 1, 3], 1), ([3, 1, 3, 1], 3), ([2, 3, 2], 2), ([1, 2, 3, 3, 1], 3)):
            for homes in ([1, 2], [0, 0], [0, 1]):
                refused(self, Twice, lambda: of_menu(homes, menu), bar=bar)
                refused(self, Twice, lambda: of_menu(homes, tuple(menu), prices=[0] * len(menu)), bar=bar)

    def test_prices_are_handed_in_by_their_name_alone(self):
        with self.assertRaises(TypeError):
            of_menu([1], [1], [5])
        self.assertEqual(of_menu(homes=[1], menu=[1], prices=[5]), ("bars", [1], 5, [1], 1))
        self.assertEqual(of_menu(homes=[1], menu=[1], prices=None), ("bars", [1], [1], 1))
        self.assertEqual(of_menu([1], menu=[1]), ("bars", [1], [1], 1))

    def test_what_is_told_is_the_askers_and_what_is_handed_in_stays(self):
        homes, menu, prices = [0, 1], [3, 1, 2], [4, 5, 6]
        told = of_menu(homes, menu, prices=prices)
        before = ("bars", list(told[1]), told[2], list(told[3]), told[4])
        told[1].append(7)
        told[3].append(7)
        self.assertEqual((homes, menu, prices), ([0, 1], [3, 1, 2], [4, 5, 6]))
        self.assertEqual(of_menu(homes, menu, prices=prices), before)
        told = of_menu([0, 1], [3])
        told[1].append(9)
        self.assertEqual(told[2], [3])
        self.assertEqual(homes_one_by_one([3], 2), [0, 1])


if __name__ == "__main__":
    unittest.main()
