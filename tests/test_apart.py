import random
import unittest

from helper import ANYTHINGS, books_one_by_one, crowded, far_bars, far_numbers, refused, same, some_houses

from firstbooks.apart import pair_count, pair_first, pair_nth, pairs_met, parts, unlike
from firstbooks.errors import NoPair
from firstbooks.house import House


def some_couples():
    """Tell couples of lists of bars, alike ones among them."""
    pick = random.Random(4)
    houses = some_houses()
    told = [pick.sample(houses, 2) for _ in range(60)]
    told += [([], []), ([4], [4, 6]), ([4, 6], [6]), ([1], [1, 2]), ([], [32]), ([63], []), ([2, 3], [3, 2]), ([1], [1])]
    told += [([1, 4, 6], [1, 6]), ([1, 4, 6], [1, 4, 6]), (crowded([0, 1, 2]), crowded([2, 3])), ([1, 2, 3], [3, 4, 7])]
    return told


def far_couples():
    """Tell couples of houses with far marks."""
    bars = far_bars(3, 199)
    told = [(House(far_bars(k, 30)), House(far_bars(k + 9, 150))) for k in range(3)]
    told += [(House(bars), House(bars + [2 ** 189 + 7])), (House(), House([2 ** 189])), (House(bars), House(bars))]
    told += [(House(crowded([0, 40, 189])), House(crowded([0, 3, 77, 188]))), (House(), House())]
    return told


class TestParts(unittest.TestCase):
    def test_by_going_one_by_one(self):
        alike = 0
        for bars, others in some_couples():
            one, other = House(bars), House(others)
            below = 2 ** (max(one.height(), other.height()) + 1)
            books, beside = books_one_by_one(bars, below), books_one_by_one(others, below)
            apart = [number for number in range(below) if books[number] != beside[number]]
            if apart:
                self.assertTrue(same(parts(one, other), apart[0]), (bars, others))
                self.assertEqual(parts(other, one), apart[0])
            else:
                self.assertIsNone(parts(one, other))
                alike += sorted(bars) != sorted(others)
            for bound in range(below + 1):
                self.assertEqual(unlike(one, other, bound), sum(1 for number in apart if number < bound))
            self.assertTrue(one == House(bars) and other == House(others))
        self.assertGreater(alike, 1)

    def test_houses_of_unlike_bars_that_are_alike(self):
        for bars, others in (([4], [4, 6]), ([4], [6]), ([2 ** 189], [2 ** 189 + 1]), ([1, 4, 6], [1, 4])):
            self.assertIsNone(parts(House(bars), House(others)))
            self.assertEqual(unlike(House(bars), House(others), 10 ** 199), 0)

    def test_far_ones(self):
        for one, other in far_couples():
            told = parts(one, other)
            homes = [power for power in range(190) if one.home(power) != other.home(power)]
            self.assertEqual(told, 2 ** homes[0] if homes else None)
            if told is not None:
                self.assertNotEqual(one.book_of(told), other.book_of(told))
                self.assertEqual(one.book_of(told - 1), other.book_of(told - 1))
                self.assertEqual((unlike(one, other, told), unlike(one, other, told + 1)), (0, 1))

    def test_far_bounds(self):
        for one, other in far_couples():
            for bound in far_numbers(12, 25) + [0, 1, 2 ** 190, 2 ** 664, 10 ** 200 - 1]:
                step = unlike(one, other, bound + 1) - unlike(one, other, bound)
                self.assertEqual(step, one.book_of(bound) != other.book_of(bound))
            if parts(one, other) is None:
                self.assertEqual(unlike(one, other, 10 ** 199), 0)
                continue
            # Behind the height just as many are unlike in each stretch.
            stretch = unlike(one, other, 2 ** 190)
            for times in (2, 3, 10 ** 100):
                self.assertEqual(unlike(one, other, times * 2 ** 190), times * stretch)

    def test_a_bound_within_few(self):
        # The houses tell 2 ** 189 and what goes with it apart: half of all numbers.
        one, other = House(), House([2 ** 189])
        self.assertEqual(parts(one, other), 2 ** 189)
        self.assertEqual(unlike(one, other, 2 ** 190), 2 ** 189)
        self.assertEqual(unlike(one, other, 2 ** 189 + 5), 5)
        self.assertEqual(unlike(one, other, 2 ** 600 + 2 ** 189 + 5), 2 ** 599 + 5)

    def test_asked_again_behind_a_turn(self):
        one, other = House([4]), House([4, 6])
        self.assertIsNone(parts(one, other))
        one.take(4)
        self.assertEqual((parts(one, other), unlike(one, other, 8)), (4, 4))
        other.put(1)
        self.assertEqual((parts(one, other), pairs_met(one, other)), (1, 2))
        one.put(6)
        self.assertEqual((parts(one, other), pairs_met(one, other)), (1, 4))


class TestPairs(unittest.TestCase):
    def test_by_going_one_by_one(self):
        for bars, others in some_couples():
            one, other = House(bars), House(others)
            below = 2 ** (max(one.height(), other.height()) + 1)
            found = {}
            for number, pair in enumerate(zip(books_one_by_one(bars, below), books_one_by_one(others, below))):
                found.setdefault(pair, []).append(number)
            self.assertTrue(same(pairs_met(one, other), len(found)))
            for pair, numbers in found.items():
                self.assertTrue(same(pair_first(one, other, pair), numbers[0]))
                self.assertEqual([pair_nth(one, other, pair, j) for j in range(len(numbers))], numbers)
                self.assertEqual(pair_nth(one, other, pair, len(numbers)), numbers[0] + below)
                for bound in list(range(0, below, 3)) + numbers[:5] + [below]:
                    many = sum(1 for number in numbers if number < bound)
                    self.assertEqual(pair_count(one, other, pair, bound), many)
            for book in range(one.books() + 1):
                for beside in range(other.books() + 1):
                    if (book, beside) not in found:
                        self.refused(one, other, (book, beside))
            self.assertTrue(one == House(bars) and other == House(others))

    def refused(self, one, other, pair):
        refused(self, NoPair, lambda: pair_first(one, other, pair), pair=pair)
        for place in (0, 1, 10 ** 199):
            refused(self, NoPair, lambda: pair_nth(one, other, pair, place), pair=pair)
            refused(self, NoPair, lambda: pair_count(one, other, pair, place), pair=pair)

    def test_things_of_any_kind(self):
        for bars, others in (([], []), ([1], [1]), ([1, 2, 3], [1, 4, 5]), (far_bars(1, 50), far_bars(2, 50))):
            one, other = House(bars), House(others)
            for thing in ANYTHINGS:
                self.refused(one, other, thing)
                self.refused(one, other, (thing, 0))
                self.refused(one, other, (0, thing))
                self.refused(one, other, (thing, thing))
            for thing in ("00", "0, 0", [0, 0], [1, 1], (0,), (0, 0, 0), (1, 1, 1), ((0, 0),), (0, (0, 0)), b"00", {0: 0}):
                self.refused(one, other, thing)
            for thing in ((0, 10 ** 199), (10 ** 199, 0), (0, other.books()), (one.books(), 0), (-1, 0), (0, -1)):
                self.refused(one, other, thing)
            self.assertEqual(pair_first(one, other, (0, 0)), 0)
            self.assertTrue(one == House(bars) and other == House(others))

    def test_true_is_no_book(self):
        one = House([1])
        self.assertEqual(pair_first(one, one, (1, 1)), 1)
        for pair in ((True, 1), (1, True), (True, True), (False, 0), (0, False), (1.0, 1), (1, 1.0)):
            self.refused(one, one, pair)

    def test_a_second_book_that_runs_over(self):
        # Were pairs reckoned together as one number, 2 in the second would be 1 in the first.
        one, other = House([2]), House([1])
        self.assertEqual(pairs_met(one, other), 4)
        self.refused(one, other, (0, 2))
        self.refused(one, other, (0, 3))
        self.refused(one, other, (1, 2))

    def test_far_numbers_by_what_is_told_alone(self):
        for one, other in far_couples():
            pairs = {(one.book_of(n), other.book_of(n)) for n in far_numbers(2, 12) + [0, 1, 2 ** 189, 2 ** 190 - 1]}
            for pair in pairs:
                last = -1
                for place in sorted({0, 1, 2, 3, 2 ** 150, 2 ** 189, 2 ** 190 + 1, *far_numbers(3, 5)}):
                    number = pair_nth(one, other, pair, place)
                    self.assertEqual((one.book_of(number), other.book_of(number)), pair)
                    self.assertEqual(pair_count(one, other, pair, number), place)
                    self.assertEqual(pair_count(one, other, pair, number + 1), place + 1)
                    self.assertGreater(number, last)
                    last = number
                self.assertEqual(pair_first(one, other, pair), pair_nth(one, other, pair, 0))

    def test_all_pairs_numbers_are_as_many_as_the_bound(self):
        for one, other in far_couples() + [(House(bars), House(others)) for bars, others in some_couples()[:20]]:
            met = []
            for book in range(one.books()):
                for beside in range(other.books()):
                    try:
                        pair_first(one, other, (book, beside))
                    except NoPair:
                        continue
                    met.append((book, beside))
            self.assertEqual(pairs_met(one, other), len(met))
            for bound in far_numbers(6, 2) + [0, 1, 100, 2 ** 190]:
                counts = {pair: pair_count(one, other, pair, bound) for pair in met}
                self.assertEqual(sum(counts.values()), bound)
                split = sum(many for pair, many in counts.items() if pair[0] != pair[1])
                self.assertEqual(unlike(one, other, bound), split)

    def test_by_names(self):
        one, other = House([1, 2, 3]), House([2])
        self.assertEqual(parts(one=one, other=other), 1)
        self.assertEqual(unlike(one=one, other=other, below=8), 6)
        self.assertEqual(pairs_met(one=one, other=other), 4)
        self.assertEqual(pair_first(one=one, other=other, pair=(3, 1)), 3)
        self.assertEqual(pair_nth(one=one, other=other, pair=(3, 1), place=2), 11)
        self.assertEqual(pair_count(one=one, other=other, pair=(3, 1), below=11), 2)


if __name__ == "__main__":
    unittest.main()
