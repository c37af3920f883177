import itertools
import random
import unittest

from helper import ANYTHINGS, all_homes, all_sets, books_one_by_one, far_numbers, otherwise, same, with_tuples

from firstbooks.asks import fewest_more, shows_asks, tells_apart

# For each number of powers the books of the numbers below 2 ** powers, of each house that isn't alike to another.
BOOKS = [[books_one_by_one(houses[0], 2 ** powers) for houses in all_homes(powers).values()] for powers in range(4)]


def tells(numbers, powers):
    """Tell whether no two houses that aren't alike have the same books of the whole list, by all houses."""
    told = [tuple(books[number] for number in numbers) for books in BOOKS[powers]]
    return len(set(told)) == len(told)


def is_number(thing):
    return isinstance(thing, int) and not isinstance(thing, bool) and thing >= 0


def fits(numbers, powers, paper):
    """Tell whether a thing is a paper, by [17] alone."""
    if not isinstance(paper, tuple) or len(paper) != 2:
        return False
    if same(paper[0], "apart"):
        return isinstance(paper[1], (list, tuple)) and len(paper[1]) == powers and all(
            makes(numbers, row, 2 ** power) for power, row in enumerate(paper[1]))
    if not same(paper[0], "alike") or not is_number(paper[1]) or not 0 < paper[1] < 2 ** powers:
        return False
    return not any(bin(paper[1] & number).count("1") % 2 for number in numbers)


def makes(numbers, row, wanted):
    if not isinstance(row, (list, tuple)) or not all(is_number(place) and place < len(numbers) for place in row):
        return False
    total = 0
    for place in row:
        total ^= numbers[place]
    return list(row) == sorted(set(row)) and total == wanted


def some_lists():
    """Tell pairs (numbers, powers) of few powers: all sets of numbers, and picked lists in which one stands twice."""
    told = [(numbers, powers) for powers in range(4) for numbers in all_sets(range(2 ** powers))]
    pick = random.Random(7)
    for _ in range(150):
        powers = pick.randrange(1, 4)
        numbers = [pick.randrange(2 ** powers) for _ in range(pick.randrange(1, 7))]
        told.append((numbers + [pick.choice(numbers)], powers))
    return told


def far_lists():
    """Tell pairs (numbers, powers) of many powers, such as tell houses apart and such as don't."""
    told = []
    for seed, (many, powers) in enumerate([(200, 180), (180, 180), (179, 180), (200, 150), (30, 30), (20, 64)]):
        pick = random.Random(seed)
        numbers = [pick.randrange(2 ** powers) for _ in range(many)]
        told.append((numbers, powers))
        told.append(([number & ~(1 << powers // 2) for number in numbers], powers))
        told.append(([number if bin(number).count("1") % 2 == 0 else number ^ 1 for number in numbers], powers))
        told.append(([1 << power for power in range(powers)][::-1], powers))
        told.append((far_numbers(seed, many, 2 ** powers), powers))
    return told


class TestTellsApart(unittest.TestCase):
    def test_by_all_houses(self):
        seen = {True: 0, False: 0}
        for numbers, powers in some_lists():
            told = tells_apart(numbers, powers)
            apart = tells(numbers, powers)
            seen[apart] += 1
            self.assertTrue(fits(numbers, powers, told), (numbers, powers, told))
            self.assertEqual(told[0], "apart" if apart else "alike")
        self.assertGreater(min(seen.values()), 50)

    def test_a_house_that_is_told_by_no_number_of_the_list(self):
        for numbers, powers in some_lists():
            word, number = tells_apart(numbers, powers)
            if word == "alike":
                bars = [2 ** mark for mark in range(powers) if number >> mark & 1]
                books = books_one_by_one(bars, 2 ** powers)
                self.assertTrue(any(books))
                self.assertFalse(any(books[one] for one in numbers))

    def test_small_ones(self):
        self.assertTrue(same(tells_apart([], 0), ("apart", [])))
        self.assertTrue(same(tells_apart([0, 0], 0), ("apart", [])))
        self.assertTrue(same(tells_apart([], 1), ("alike", 1)))
        self.assertTrue(same(tells_apart([0], 1), ("alike", 1)))
        self.assertTrue(same(tells_apart([1], 1), ("apart", [[0]])))
        self.assertTrue(same(tells_apart([3], 2), ("alike", 3)))
        self.assertTrue(same(tells_apart([3, 2], 2), ("apart", [[0, 1], [1]])))
        self.assertTrue(same(tells_apart([1], 2), ("alike", 2)))

    def test_many_powers(self):
        words = []
        for numbers, powers in far_lists():
            told = tells_apart(numbers, powers)
            self.assertTrue(fits(numbers, powers, told))
            self.assertIs(shows_asks(numbers, powers, told), True)
            words.append(told[0])
        self.assertGreater(words.count("apart"), 5)
        self.assertGreater(words.count("alike"), 5)

    def test_marks_from_the_powers_on_tell_nothing(self):
        for numbers, powers in some_lists()[::5]:
            beyond = [number + (2 + place) * 2 ** powers for place, number in enumerate(numbers)]
            told = tells_apart(beyond, powers)
            self.assertTrue(fits(numbers, powers, told))
            self.assertIs(shows_asks(beyond, powers, told), True)
            self.assertTrue(tells(numbers + fewest_more(beyond, powers), powers))

    def test_what_is_handed_in_stays_and_what_is_told_is_the_askers_own(self):
        numbers = [3, 2, 2, 0]
        told = tells_apart(numbers, 2)
        told[1][0].append(9)
        told[1].append(9)
        self.assertEqual(numbers, [3, 2, 2, 0])
        self.assertTrue(fits(numbers, 2, tells_apart(numbers, 2)))
        self.assertTrue(same(tells_apart((3, 2), 2), tells_apart([3, 2], 2)))
        self.assertTrue(same(tells_apart(powers=2, numbers=[3, 2]), tells_apart([3, 2], 2)))


class TestShowsAsks(unittest.TestCase):
    def check(self, numbers, powers, thing):
        self.assertIs(shows_asks(numbers, powers, thing), fits(numbers, powers, thing), (numbers, powers, thing))

    def test_told_papers_and_these_with_one_thing_otherwise(self):
        for numbers, powers in some_lists()[::3] + far_lists()[4:5]:
            paper = tells_apart(numbers, powers)
            self.assertIs(shows_asks(numbers, powers, paper), True)
            self.assertIs(shows_asks(tuple(numbers), powers, with_tuples(paper)), True)
            self.assertIs(shows_asks(numbers, powers, list(paper)), False)
            if powers < 10:
                for other in otherwise(paper):
                    self.check(numbers, powers, other)

    def test_all_papers_that_fit(self):
        many = 0
        for numbers, powers in (([], 0), ([0], 1), ([1, 1, 0], 1), ([1, 2, 3, 2], 2), ([3, 3, 0], 2), ([5, 6], 3)):
            rows = [list(row) for size in range(3) for row in itertools.product(range(len(numbers) + 1), repeat=size)]
            rows += all_sets(range(len(numbers)))
            for picked in itertools.product(rows, repeat=powers):
                self.check(numbers, powers, ("apart", list(picked)))
                many += fits(numbers, powers, ("apart", list(picked)))
            for number in range(-2, 2 ** powers + 3):
                self.check(numbers, powers, ("alike", number))
        self.assertGreater(many, 20)

    def test_other_powers_and_other_lists(self):
        for numbers, powers in some_lists()[::7]:
            paper = tells_apart(numbers, powers)
            for other in range(4):
                below = [number % 2 ** other for number in numbers]
                self.check(below, other, paper)
                self.check(below[::-1], other, paper)
                self.check(below[:-1], other, paper)

    def test_things_of_any_kind(self):
        for numbers, powers in (([], 0), ([1], 1), ([1, 2], 2), ([1, 3, 0], 2), ([1], 2), ([], 1), ([0], 0)):
            for thing in ANYTHINGS + ["apart", "alike", ("apart",), ("alike",), ("apart", [], []), ("alike", 1, 1)]:
                self.assertIs(shows_asks(numbers, powers, thing), False)
                for word in ("apart", "alike", "", "Apart", b"apart", None, 1, True):
                    self.check(numbers, powers, (word, thing))
                    self.check(numbers, powers, [word, thing])
                self.check(numbers, powers, (thing, []))
                self.check(numbers, powers, (thing, 2))
                self.check(numbers, powers, ("apart", [thing] * powers))
                self.check(numbers, powers, ("apart", [[thing]] * powers))

    def test_truths_are_no_numbers(self):
        self.assertIs(shows_asks([2], 1 + 1, ("alike", 1)), True)
        self.assertIs(shows_asks([2], 2, ("alike", True)), False)
        self.assertIs(shows_asks([2], 2, ("alike", 1.0)), False)
        self.assertIs(shows_asks([1], 1, ("apart", [[0]])), True)
        self.assertIs(shows_asks([1], 1, ("apart", [[False]])), False)
        self.assertIs(shows_asks([1], 1, ("apart", [[0.0]])), False)
        self.assertIs(shows_asks([1], 1, ("apart", [[-1]])), False)

    def test_many_powers(self):
        for numbers, powers in far_lists():
            word, reason = tells_apart(numbers, powers)
            if word == "apart":
                bent = [list(row) for row in reason]
                bent[powers // 2] = bent[powers // 2][1:]
                self.assertIs(shows_asks(numbers, powers, (word, bent)), False)
                self.assertIs(shows_asks(numbers, powers, (word, reason[:-1])), False)
            else:
                for other in (reason ^ 1, reason ^ 2 ** (powers - 1), reason + 2 ** powers, 0):
                    self.check(numbers, powers, (word, other))

    def test_nothing_is_changed(self):
        numbers, paper = [1, 3, 0], ("apart", [[0], [0, 1]])
        self.assertIs(shows_asks(numbers, 2, paper), True)
        self.assertEqual((numbers, paper), ([1, 3, 0], ("apart", [[0], [0, 1]])))
        self.assertIs(shows_asks(numbers=numbers, powers=2, paper=paper), True)


class TestFewestMore(unittest.TestCase):
    def test_by_all_houses(self):
        for numbers, powers in some_lists():
            told = fewest_more(numbers, powers)
            self.assertIs(type(told), list)
            self.assertTrue(tells(numbers + told, powers))
            self.assertEqual(told, sorted(set(told)))
            self.assertTrue(all(type(one) is int and 0 <= one < 2 ** powers for one in told))
            for place in range(len(told)):
                self.assertFalse(tells(numbers + told[:place] + told[place + 1:], powers))
            if told and powers < 3:
                for other in itertools.combinations(range(2 ** powers), len(told) - 1):
                    self.assertFalse(tells(numbers + list(other), powers))

    def test_fewest_by_all_lists_of_three_powers(self):
        for numbers in ([], [0], [7], [3, 5], [3, 5, 6], [1, 2], [4, 4], [1, 2, 4], [6, 1]):
            told = fewest_more(numbers, 3)
            found = [size for size in range(4) for more in itertools.combinations(range(8), size)
                     if tells(numbers + list(more), 3)]
            self.assertEqual(len(told), min(found))

    def test_many_powers(self):
        for numbers, powers in far_lists():
            told = fewest_more(numbers, powers)
            self.assertEqual(told, sorted(set(told)))
            self.assertTrue(all(0 <= one < 2 ** powers for one in told))
            self.assertEqual(tells_apart(numbers + told, powers)[0], "apart")
            self.assertEqual(told == [], tells_apart(numbers, powers)[0] == "apart")
            for place in range(0, len(told), 37):
                less = numbers + told[:place] + told[place + 1:]
                self.assertEqual(tells_apart(less, powers)[0], "alike")
            self.assertEqual(fewest_more(numbers + told, powers), [])

    def test_of_no_numbers_and_of_no_powers(self):
        self.assertTrue(same(fewest_more([], 0), []))
        self.assertTrue(same(fewest_more([0, 0], 0), []))
        self.assertEqual(len(fewest_more([], 180)), 180)
        self.assertEqual(len(fewest_more([0], 7)), 7)

    def test_what_is_handed_in_stays_and_what_is_told_is_the_askers_own(self):
        numbers = [3]
        fewest_more(numbers, 2).append(9)
        self.assertEqual(numbers, [3])
        self.assertEqual(len(fewest_more(numbers, 2)), 1)
        self.assertEqual(fewest_more((3,), 2), fewest_more(numbers, 2))
        self.assertEqual(fewest_more(powers=2, numbers=[3]), fewest_more([3], 2))


if __name__ == "__main__":
    unittest.main()
