import random
import unittest

from helper import (
    ANYTHINGS, all_sets, books_one_by_one, crowded, far_bars, far_numbers, otherwise, same, with_tuples,
)

from firstbooks.house import House
from firstbooks.renamed import renamed, shows_renamed

BELOW = 16
SETS = all_sets(range(1, 8))
BOOKS = {tuple(bars): books_one_by_one(bars, BELOW) for bars in SETS}


def parted(one, other, number, greater):
    """Tell whether two numbers are in one book of just one of two lists of books."""
    return (one[number] == one[greater]) != (other[number] == other[greater])


def parts_alike(one, other):
    """Tell whether two lists of books part numbers alike: no two numbers are in one book of just one."""
    return not any(parted(one, other, a, b) for b in range(BELOW) for a in range(b))


def some_pairs():
    """Tell pairs of lists of bars below 8: each with itself, picked ones, and such as have the same books."""
    pick = random.Random(11)
    told = [(bars, bars) for bars in SETS[::3]] + [(pick.choice(SETS), pick.choice(SETS)) for _ in range(600)]
    for bars in SETS[::2]:
        alike = [other for other in SETS if BOOKS[tuple(other)] == BOOKS[tuple(bars)]]
        told.append((bars, pick.choice(alike)))
    # These differ by one bar.
    for bars in SETS[::2]:
        told.append((bars, sorted(set(bars) ^ {pick.randrange(1, 8)})))
    return told


def new_homes(one, other):
    """Tell the rows of two houses alike, by their books alone."""
    told = []
    for power in range(4):
        if one[2 ** power] not in one[:2 ** power]:
            told.append((one[2 ** power], other[2 ** power]))
    return told


def is_number(thing):
    return isinstance(thing, int) and not isinstance(thing, bool) and thing >= 0


def fits(one, other, paper):
    """Tell whether a thing tells rightly of two lists of books below 2 ** 4, by [20] alone."""
    if not isinstance(paper, tuple) or len(paper) not in (2, 3):
        return False
    if len(paper) == 2:
        if not same(paper[0], "alike") or not isinstance(paper[1], (list, tuple)) or not parts_alike(one, other):
            return False
        return all(isinstance(row, tuple) for row in paper[1]) and same(list(paper[1]), new_homes(one, other))
    _, number, greater = paper
    if not same(paper[0], "unlike") or not is_number(number) or not is_number(greater) or number >= greater:
        return False
    # Bars below 8 give home 0 to all powers from 3 on.
    return parted(one, other, number % 8, greater % 8)


class TestRenamed(unittest.TestCase):
    def test_by_going_through_all_numbers(self):
        seen = {"alike": 0, "unlike": 0}
        unlike_bars = 0
        for bars, others in some_pairs():
            house, beside = House(bars), House(others)
            one, other = BOOKS[tuple(bars)], BOOKS[tuple(others)]
            told = renamed(house, beside)
            alike = parts_alike(one, other)
            seen[told[0]] += 1
            unlike_bars += alike and bars != others
            if alike:
                self.assertTrue(same(told, ("alike", new_homes(one, other))), (bars, others, told))
                self.assertTrue(all(a == b for a, b in told[1]))
            else:
                self.assertTrue(fits(one, other, told), (bars, others, told))
                self.assertEqual(told[0], "unlike")
            self.assertEqual((house.bars(), beside.bars()), (bars, others))
        self.assertGreater(min(seen.values()), 100)
        self.assertGreater(unlike_bars, 30)

    def test_of_two_houses_either_may_be_the_first(self):
        for bars, others in some_pairs()[::5]:
            one, other = renamed(House(bars), House(others)), renamed(House(others), House(bars))
            self.assertEqual(one[0], other[0])

    def test_houses_without_bars(self):
        self.assertTrue(same(renamed(House(), House()), ("alike", [])))
        self.assertIs(shows_renamed(House(), House(), ("alike", [])), True)
        self.assertTrue(same(renamed(House(), House([2])), ("unlike", 0, 2)))
        self.assertTrue(same(renamed(House([2 ** 189]), House()), ("unlike", 0, 2 ** 189)))

    def test_of_unlike_bars(self):
        self.assertTrue(same(renamed(House([1, 2]), House([1, 2, 4, 5, 6])), ("unlike", 0, 4)))
        self.assertTrue(same(renamed(House([4, 6]), House([6])), ("alike", [(1, 1)])))
        self.assertTrue(same(renamed(House([1, 2, 3]), House([1, 2, 3, 12, 13, 14, 15])), ("unlike", 0, 8)))
        self.assertTrue(same(renamed(House([1, 2, 3, 6]), House([3, 2, 1])), ("alike", [(1, 1), (2, 2)])))

    def test_far_houses(self):
        for seed, many in enumerate((1, 5, 40, 200)):
            bars = far_bars(seed, many)
            house = House(bars)
            rows = [(home, home) for home in map(house.home, house.new())]
            self.assertTrue(same(renamed(house, House(bars[::-1])), ("alike", rows)))
            for beside in (House(far_bars(seed + 9, 30)), House(bars[1:] + [2 ** 188 + 2 ** 77]), House(crowded([0, 189]))):
                word, number, greater = renamed(house, beside)
                self.assertEqual(word, "unlike")
                self.assertLess(number, greater)
                together = house.book_of(number) == house.book_of(greater)
                self.assertNotEqual(together, beside.book_of(number) == beside.book_of(greater))
                self.assertIs(shows_renamed(house, beside, (word, number, greater)), True)
                self.assertIs(shows_renamed(house, beside, (word, greater, number)), False)

    def test_what_is_told_is_the_askers_own(self):
        house = House([1, 2, 3])
        renamed(house, house)[1].append((9, 9))
        self.assertEqual(renamed(one=house, other=House([1, 2, 3])), ("alike", [(1, 1), (2, 2)]))


class TestShowsRenamed(unittest.TestCase):
    def check(self, bars, others, thing):
        house, beside = House(bars), House(others)
        wanted = fits(BOOKS[tuple(bars)], BOOKS[tuple(others)], thing)
        self.assertIs(shows_renamed(house, beside, thing), wanted, (bars, others, thing))
        self.assertEqual((house.bars(), beside.bars()), (bars, others))
        return wanted

    def test_told_papers_and_these_with_one_thing_otherwise(self):
        for bars, others in some_pairs()[::4]:
            paper = renamed(House(bars), House(others))
            self.assertTrue(self.check(bars, others, paper))
            self.assertTrue(self.check(bars, others, with_tuples(paper)))
            for other in otherwise(paper):
                self.check(bars, others, other)

    def test_any_two_numbers(self):
        many = 0
        for bars, others in some_pairs()[::25]:
            for number in range(-1, BELOW):
                for greater in range(-1, BELOW):
                    many += self.check(bars, others, ("unlike", number, greater))
        self.assertGreater(many, 500)

    def test_papers_of_other_houses(self):
        pairs = some_pairs()[::40]
        for bars, others in pairs:
            for beside in pairs:
                self.check(bars, others, renamed(House(beside[0]), House(beside[1])))

    def test_things_of_any_kind(self):
        for bars, others in (([], []), ([1], [1]), ([1], []), ([1, 2, 3], [2, 3, 1, 4][:3][::-1]), ([6], [4, 6])):
            bars, others = sorted(bars), sorted(others)
            for thing in ANYTHINGS + ["alike", "unlike", ("alike",), ("unlike", 0), ("unlike", 0, 1, 2), ("alike", [], [])]:
                self.assertIs(shows_renamed(House(bars), House(others), thing), False)
                for other in (("alike", thing), ("alike", [thing]), ("alike", [(thing, 1)]), ("alike", [(1, thing)]),
                              ("unlike", thing, 1), ("unlike", 0, thing), (thing, []), (thing, 0, 1), ("alike", (thing,)),
                              ("Alike", []), ("alike", 0, 1), ("unlike", []), ["alike", []], ["unlike", 0, 1]):
                    self.check(bars, others, other)

    def test_truths_are_no_numbers(self):
        self.assertIs(shows_renamed(House([1]), House(), ("unlike", 0, 1)), True)
        for bent in ((False, 1), (0, True), (0.0, 1), (0, 1.0)):
            self.assertIs(shows_renamed(House([1]), House(), ("unlike", *bent)), False)
        self.assertIs(shows_renamed(House([1]), House([1]), ("alike", [(1, 1)])), True)
        for row in ((True, 1), (1, True), [1, 1], (1.0, 1), (1,), (1, 1, 1), 1):
            self.assertIs(shows_renamed(House([1]), House([1]), ("alike", [row])), False)

    def test_far_numbers(self):
        house, beside = House(far_bars(1, 200)), House(far_bars(2, 200))
        for one, other in zip(far_numbers(3, 60), far_numbers(4, 60)):
            number, greater = min(one, other), max(one, other)
            together = house.book_of(number) == house.book_of(greater)
            wanted = number < greater and together != (beside.book_of(number) == beside.book_of(greater))
            self.assertIs(shows_renamed(house, beside, ("unlike", number, greater)), wanted)
        self.assertIs(shows_renamed(one=house, other=beside, paper=renamed(house, beside)), True)


if __name__ == "__main__":
    unittest.main()
