import random
import unittest

from helper import crowded, far_bars, far_numbers, same, some_houses

from firstbooks.checks import homes_of
from firstbooks.house import House


def read_crosswise(checks, powers):
    """Tell the homes, mark by mark, by [13] alone."""
    homes = [0] * powers
    for mark, check in enumerate(checks):
        for power in range(powers):
            if check // 2 ** power % 2 == 1:
                homes[power] += 2 ** mark
    return homes


class TestChecks(unittest.TestCase):
    def test_of_a_houses_own_checks(self):
        houses = [House(bars) for bars in some_houses()]
        houses += [House(far_bars(2, 200)), House(crowded([0, 3, 64, 150, 189])), House([2 ** 189])]
        for house in houses:
            for powers in (0, 1, house.height(), house.height() + 3, 200):
                homes = [house.home(power) for power in range(powers)]
                self.assertTrue(same(homes_of(house.checks(), powers), homes))

    def test_of_any_lists(self):
        pick = random.Random(3)
        for _ in range(200):
            checks = [pick.randrange(2 ** pick.randrange(1, 9)) for _ in range(pick.randrange(6))]
            for powers in range(10):
                self.assertTrue(same(homes_of(checks, powers), read_crosswise(checks, powers)))

    def test_homes_of_no_house(self):
        self.assertEqual(homes_of([0, 1], 2), [2, 0])
        self.assertEqual(homes_of([3, 3], 2), [3, 3])
        self.assertEqual(homes_of([5, 4, 1], 4), [5, 0, 3, 0])

    def test_no_checks_and_no_powers(self):
        self.assertTrue(same(homes_of([], 0), []))
        self.assertTrue(same(homes_of([], 3), [0, 0, 0]))
        self.assertTrue(same(homes_of([1, 2, 3], 0), []))
        self.assertTrue(same(homes_of([0, 0], 2), [0, 0]))

    def test_more_powers_than_the_checks_marks_and_fewer(self):
        self.assertEqual(homes_of([1], 5), [1, 0, 0, 0, 0])
        self.assertEqual(homes_of([31, 16], 3), [1, 1, 1])

    def test_far(self):
        checks = far_numbers(4, 200)
        self.assertTrue(same(homes_of(checks, 200), read_crosswise(checks, 200)))

    def test_checks_are_homes_read_crosswise(self):
        for seed in range(5):
            checks = far_numbers(seed, 30, 2 ** 90)
            self.assertEqual(homes_of(homes_of(checks, 90), 30), checks)

    def test_what_is_handed_in_stays_and_what_is_told_is_the_askers_own(self):
        checks = [3, 1]
        told = homes_of(checks, 2)
        told.append(7)
        self.assertEqual(checks, [3, 1])
        self.assertEqual(homes_of(checks, 2), [3, 1])
        self.assertTrue(same(homes_of((3, 1), 2), [3, 1]))
        self.assertEqual(homes_of(checks=checks, powers=2), [3, 1])


if __name__ == "__main__":
    unittest.main()
