import unittest
from itertools import product

from helper import all_homes, all_sets, books_one_by_one, crowded, far_bars, homes_one_by_one, refused, same

from firstbooks.errors import CantBe, TooMany
from firstbooks.house import House
from firstbooks.idle import core, how_many_alike
from firstbooks.wishes import can_be, fewest, turned_into

BY_POWERS = [all_homes(powers) for powers in range(4)]


def first_impossible(homes):
    """Tell the first place from which on no house has the homes, by all houses."""
    for place in range(len(homes)):
        if not any(have[:place + 1] == tuple(homes[:place + 1]) for have in BY_POWERS[len(homes)]):
            return place
    return None


def full(powers):
    """Tell homes 1, 2, 4, .., each a new power's."""
    return [2 ** power for power in range(powers)]


def homes_of(bars, powers):
    return [House(bars).home(power) for power in range(powers)]


class TestCanBe(unittest.TestCase):
    def test_by_all_houses_of_few_marks(self):
        for powers in range(4):
            for homes in product(range(2 ** powers + 2), repeat=powers):
                self.assertTrue(same(can_be(list(homes)), first_impossible(homes)), homes)
                self.assertTrue(same(can_be(homes), first_impossible(homes)), homes)

    def test_far_ones(self):
        self.assertIsNone(can_be([]))
        self.assertIsNone(can_be([0] * 190))
        self.assertIsNone(can_be(full(190)))
        self.assertIsNone(can_be([0] * 189 + [1]))
        self.assertEqual(can_be([0] * 189 + [2]), 189)
        self.assertEqual(can_be([1] * 189 + [3]), 189)
        self.assertIsNone(can_be([1] * 189 + [2]))
        self.assertEqual(can_be(full(189) + [2 ** 189 + 1]), 189)
        self.assertEqual(can_be(full(100) + [2 ** 100 + 1] * 90), 100)
        self.assertIsNone(can_be(full(100) + [2 ** 100 - 1] * 90))
        self.assertEqual(can_be([10 ** 199]), 0)
        # Behind the first place that can't be nothing matters.
        self.assertEqual(can_be([0, 5, 0, 7, 10 ** 199]), 1)

    def test_homes_of_houses_can_be(self):
        for seed, many in ((1, 5), (2, 60), (3, 200)):
            homes = homes_of(far_bars(seed, many), 190)
            self.assertIsNone(can_be(homes))
            for place in (0, 40, 189):
                wrong = homes[:place] + [2 ** 190] + homes[place + 1:]
                self.assertEqual(can_be(wrong), place)

    def test_what_is_handed_in_stays(self):
        homes = [1, 2, 7]
        self.assertEqual(can_be(homes=homes), 2)
        self.assertEqual(homes, [1, 2, 7])


class TestFewest(unittest.TestCase):
    def check(self, homes):
        told = fewest(homes)
        self.assertIsInstance(told, list)
        self.assertEqual(told, sorted(set(told)))
        self.assertTrue(all(type(bar) is int and 0 < bar < 2 ** len(homes) for bar in told))
        self.assertEqual(homes_of(told, len(homes)), list(homes))
        return told

    def test_by_all_houses_of_few_marks(self):
        for powers in range(4):
            for homes, houses in BY_POWERS[powers].items():
                told = self.check(homes)
                self.assertEqual(homes_one_by_one(told, powers), list(homes))
                self.assertEqual(len(told), min(map(len, houses)))
                self.assertEqual(len(fewest(list(homes))), len(told))

    def test_these_houses_and_no_others(self):
        for powers in range(4):
            for homes, houses in BY_POWERS[powers].items():
                self.assertEqual(how_many_alike(House(fewest(homes)), powers), len(houses))

    def test_all_houses_of_four_powers_have_homes_that_can_be(self):
        total = 0
        for homes in product(range(9), repeat=4):
            if can_be(homes) is None:
                total += how_many_alike(House(self.check(homes)), 4)
        self.assertEqual(total, 2 ** 15)

    def test_rows_of_noughts_and_of_none(self):
        for many in (0, 1, 2, 190):
            self.assertEqual(fewest([0] * many), [])
            self.assertEqual(fewest((0,) * many), [])

    def test_far_ones(self):
        self.check([0] * 189 + [1])
        self.check([0, 1] * 95)
        self.check([1] * 190)
        self.check([1, 0, 2, 3, 1] + [0] * 180 + [4, 7, 5, 2, 1])
        self.check(full(7) + [1] * 73 + [0] * 110)
        for seed, many in ((1, 5), (2, 60), (3, 200)):
            house = House(far_bars(seed, many))
            told = self.check([house.home(power) for power in range(190)])
            self.assertEqual(len(told), len(core(house)))

    def test_what_cant_be(self):
        for homes, place in (([2], 0), ([0, 2], 1), ([1, 2, 5], 2), ([0] * 189 + [2], 189), ([10 ** 199, 1], 0)):
            refused(self, CantBe, lambda: fewest(homes), place=place)
            refused(self, CantBe, lambda: fewest(tuple(homes)), place=place)

    def test_above_two_hundred(self):
        self.assertEqual(len(self.check(full(7) + [73])), 200)
        self.assertEqual(len(self.check([1] * 190 + [])), 190)
        with self.assertRaises(TooMany) as caught:
            fewest(full(7) + [74])
        self.assertEqual(vars(caught.exception), {"many": 201})
        self.assertIs(caught.exception.__class__, TooMany)
        for homes in (full(8), full(190), full(100) + [2 ** 99] * 90, [1, 2] + [2] * 99):
            with self.assertRaises(TooMany) as caught:
                fewest(homes)
            self.assertEqual(caught.exception.many, sum(homes))
        # Both are due: what can't be goes.
        refused(self, CantBe, lambda: fewest(full(9) + [1000]), place=9)
        refused(self, CantBe, lambda: fewest(full(189) + [2 ** 189 + 1]), place=189)

    def test_what_is_told_is_the_askers_and_what_is_handed_in_stays(self):
        homes = [1, 2, 3]
        told = fewest(homes=homes)
        told.append(99)
        told[0] = 77
        self.assertEqual(homes, [1, 2, 3])
        self.assertEqual(len(self.check(homes)), 6)


class TestTurnedInto(unittest.TestCase):
    def check(self, bars, homes):
        """Look at the turns, and tell how many they are."""
        house = House(bars)
        told = turned_into(house, homes)
        self.assertEqual(house, House(bars))
        self.assertTrue(type(told) is tuple and len(told) == 2)
        out, put = told
        for part in told:
            self.assertTrue(type(part) is list and part == sorted(set(part)))
        self.assertTrue(all(bar in bars for bar in out))
        self.assertTrue(all(bar not in bars and bar < 2 ** len(homes) for bar in put))
        self.assertTrue(all(bar in out for bar in bars if bar >= 2 ** len(homes)))
        behind = House([bar for bar in bars if bar not in out] + put)
        self.assertEqual([behind.home(power) for power in range(200)], list(homes) + [0] * (200 - len(homes)))
        return len(out) + len(put)

    def test_by_all_houses_of_few_marks(self):
        for powers in range(4):
            for bars in all_sets(range(1, 2 ** powers))[::3] + [list(range(1, 2 ** powers))]:
                for homes, houses in BY_POWERS[powers].items():
                    least = min(len(set(bars) ^ set(other)) for other in houses)
                    self.assertEqual(self.check(bars, homes), least)

    def test_bars_beyond_the_wished_powers_go(self):
        for bars in all_sets([1, 2, 3, 4, 7, 8, 2 ** 189]):
            for homes in ((), (0,), (1,), (0, 1), (1, 0), (1, 2)):
                powers = len(homes)
                near = {bar for bar in bars if bar < 2 ** powers}
                least = min(len(near ^ set(other)) for other in BY_POWERS[powers][homes])
                self.assertEqual(self.check(bars, list(homes)), least + len(bars) - len(near))

    def test_a_house_that_has_them_already(self):
        for bars in ([], [1], [1, 2, 3], far_bars(4, 200), crowded([0, 9, 189])):
            house = House(bars)
            homes = [house.home(power) for power in range(190)]
            self.assertEqual(turned_into(house, homes), ([], []))
            self.assertEqual(turned_into(house, tuple(homes)), ([], []))
            self.assertEqual(turned_into(house, [0] * 190)[1], [])

    def test_from_no_bars_the_fewest(self):
        for homes in ([], [0], [1, 2, 3], [0, 1] * 95):
            out, put = turned_into(House(), homes)
            self.assertEqual((out, len(put)), ([], sum(homes)))
            self.assertEqual(turned_into(House(put), [0] * len(homes)), (put, []))

    def test_far_ones(self):
        for seed in range(4):
            other = House(far_bars(seed + 40, 150))
            homes = [other.home(power) for power in range(190)]
            self.check(far_bars(seed, 60), homes)
            self.check(far_bars(seed, 60), homes[:30])
            self.check(far_bars(seed, 200), [0, 1, 1] + [1] * 20)

    def test_a_bar_that_leads_to_the_wished_home_goes(self):
        # 4 and 6 lead to book 0: both are out where the power 2 is wished there.
        self.assertEqual(turned_into(House([4, 6, 1]), [1, 0, 0]), ([4, 6], []))
        # 5 leads to book 1, which is free where 0 is kept.
        self.assertEqual(turned_into(House([1, 5]), [1, 0, 1])[0], [5])
        self.assertEqual(turned_into(House([1, 4, 5]), [1, 0, 2]), ([], []))

    def test_what_cant_be(self):
        for homes, place in (([2], 0), ([0, 2], 1), ([1, 2, 5], 2), ([0] * 189 + [2], 189), ([10 ** 199, 1], 0)):
            for bars in ([], [1, 2, 3], far_bars(1, 200)):
                house = House(bars)
                refused(self, CantBe, lambda: turned_into(house, homes), place=place)
                self.assertEqual(house, House(bars))

    def test_above_two_hundred(self):
        def many(bars, homes):
            house = House(bars)
            with self.assertRaises(TooMany) as caught:
                turned_into(house, homes)
            self.assertIs(caught.exception.__class__, TooMany)
            self.assertEqual(house, House(bars))
            return caught.exception.many

        self.assertEqual(many([], full(8)), 255)
        self.assertEqual(many([2 ** 189], full(8)), 255)
        self.assertEqual(many(crowded(range(7)), full(8)), 255)
        self.assertEqual(many([], full(190)), 2 ** 190 - 1)
        self.assertEqual(many([1, 2, 3], full(190)), 2 ** 190 - 1)
        # Idle bars stay in, and count: 73 of these, and 127 others, or 128.
        idle = [2 ** 100 + 2 ** 7 * k for k in range(73)]
        self.assertEqual(self.check(idle, full(7) + [0] * 93 + [1]), 127)
        self.assertEqual(many(idle + [2 ** 100 + 2 ** 20], full(7) + [0] * 93 + [1]), 201)
        self.assertEqual(many(idle, full(7) + [0] * 92 + [1, 1]), 201)
        # A bar that leads to the wished home goes, and makes up for none that is wanting.
        self.assertEqual(many([2 ** 8], full(8) + [0]), 255)
        self.assertEqual(many([1, 2 ** 8 + 1], full(8) + [1]), 256)
        self.assertEqual(many([1, 2 ** 8 + 3], full(8) + [1]), 257)
        # They go where their home is wished elsewhere.
        self.assertEqual(self.check(idle, full(7) + [0] * 93), 200)
        refused(self, CantBe, lambda: turned_into(House(idle), full(9) + [1000]), place=9)

    def test_what_is_told_is_the_askers_and_what_is_handed_in_stays(self):
        homes = [1, 2]
        house = House([2, 8])
        told = turned_into(house=house, homes=homes)
        told[0].append(7)
        told[1].append(7)
        self.assertEqual((homes, house.bars()), ([1, 2], [2, 8]))
        self.assertEqual(turned_into(house, homes), ([8], [1, 3]))

    def test_asked_again_behind_a_turn(self):
        house = House([8])
        self.assertEqual(turned_into(house, [0, 1]), ([8], turned_into(House(), [0, 1])[1]))
        house.put(2)
        self.assertEqual(turned_into(house, [0, 1]), ([8], []))
        self.assertEqual(books_one_by_one([2], 4), [0, 0, 1, 1])


if __name__ == "__main__":
    unittest.main()
