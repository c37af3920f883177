import random
import unittest

from helper import all_sets, far_numbers

from firstbooks.errors import Beyond, NoNumber
from firstbooks.spans import Span


def sums_of(numbers):
    """Tell all sums of some of the numbers, rising."""
    sums = {0}
    for number in numbers:
        sums |= {number ^ one for one in sums}
    return sorted(sums)


def sum_at_places(numbers, places):
    total = 0
    for place in places:
        total ^= numbers[place]
    return total


def some_lists():
    pick = random.Random(11)
    told = [[], [0], [0, 0], [5], [5, 5], [5, 5, 5], [1, 2, 3], [3, 2, 1], [6, 5, 3, 12, 9, 10], [0, 7, 0, 7, 1]]
    told += all_sets(range(0, 6))
    for many in (2, 3, 4, 5, 6, 9):
        for _ in range(8):
            told.append([pick.randrange(64) for _ in range(many)])
    return told


class TestSpans(unittest.TestCase):
    def check(self, span, numbers):
        """Look at everything that a span of these added numbers tells, by all their sums."""
        sums = sums_of(numbers)
        self.assertEqual(2 ** span.rank(), len(sums))
        self.assertEqual([span.nth(place) for place in range(len(sums))], sums)
        for number in range(70):
            self.assertIs(span.holds(number), number in sums)
            self.assertEqual(span.below(number), sum(1 for one in sums if one < number))
            self.assertEqual(span.rest(number), min(number ^ one for one in sums))
            made = span.made_of(number)
            if number in sums:
                self.assertEqual(span.order_of(number), sums.index(number))
                self.assertIsInstance(made, list)
                self.assertEqual(made, sorted(set(made)))
                self.assertEqual(sum_at_places(numbers, made), number)
            else:
                self.assertIsNone(made)
        self.check_rows(span, sums)

    def check_rows(self, span, sums):
        rows = span.rows()
        self.assertEqual(sums_of(rows), sums)
        self.assertEqual(len(rows), span.rank())
        self.assertEqual(rows, sorted(rows))
        self.assertNotIn(0, rows)
        for row in rows:
            lead = 1 << (row.bit_length() - 1)
            self.assertEqual([one for one in rows if one & lead], [row])

    def test_at_the_making(self):
        for numbers in some_lists():
            self.check(Span(numbers), numbers)

    def test_added_one_by_one(self):
        for numbers in some_lists():
            span = Span()
            for many, number in enumerate(numbers):
                new = number not in sums_of(numbers[:many])
                self.assertIs(span.add(number), new)
                if many % 3 == 0:
                    self.check(span, numbers[:many + 1])
            self.check(span, numbers)

    def test_some_at_the_making_and_some_added(self):
        for numbers in some_lists()[::2]:
            span = Span(tuple(numbers[:2]))
            for number in numbers[2:]:
                span.add(number)
            self.check(span, numbers)

    def test_a_span_of_none(self):
        for span in (Span(), Span([]), Span(()), Span([0, 0])):
            self.assertEqual((span.rank(), span.rows(), span.nth(0), span.order_of(0)), (0, [], 0, 0))
            self.assertEqual((span.below(0), span.below(1), span.below(10 ** 199)), (0, 1, 1))
            self.assertEqual((span.made_of(0), span.made_of(4), span.rest(4)), ([], None, 4))

    def test_places_count_each_added_number(self):
        span = Span([0, 5, 5])
        span.add(5)
        span.add(8)
        self.assertEqual(span.made_of(8), [4])
        self.assertIn(span.made_of(5), ([1], [2], [3], [1, 2, 3], [0, 1], [0, 2], [0, 3], [0, 1, 2, 3]))
        self.check(span, [0, 5, 5, 5, 8])

    def test_beyond(self):
        for numbers in some_lists()[:30]:
            span = Span(numbers)
            for place in (2 ** span.rank(), 2 ** span.rank() + 1, 10 ** 199):
                with self.assertRaises(IndexError) as caught:
                    span.nth(place)
                self.assertIs(caught.exception.__class__, Beyond)
                self.assertIs(caught.exception.place, place)
            self.assertEqual(span.nth(2 ** span.rank() - 1), sums_of(numbers)[-1])

    def test_what_is_not_held(self):
        for numbers in some_lists()[:30]:
            span = Span(numbers)
            for number in [n for n in range(20) if n not in sums_of(numbers)] + [10 ** 199]:
                with self.assertRaises(KeyError) as caught:
                    span.order_of(number)
                self.assertIs(caught.exception.__class__, NoNumber)
                self.assertIs(caught.exception.number, number)
            self.check(span, numbers)

    def test_few_numbers_of_great_marks(self):
        far = [2 ** 664 + 2 ** 3, 2 ** 664 + 2 ** 190, 2 ** 190 + 2 ** 3, 2 ** 500, 10 ** 199, 10 ** 199 + 1]
        span = Span(far)
        sums = sums_of(far)
        self.assertEqual(2 ** span.rank(), len(sums))
        self.assertEqual([span.nth(place) for place in range(len(sums))], sums)
        self.check_rows(span, sums)
        for place, number in enumerate(sums):
            self.assertEqual(span.order_of(number), place)
            self.assertEqual((span.below(number), span.below(number + 1)), (place, place + 1))
            self.assertEqual(sum_at_places(far, span.made_of(number)), number)
            self.assertFalse(span.holds(number ^ 2))
            self.assertIsNone(span.made_of(number ^ 2))
            self.assertEqual(span.rest(number ^ 2), 2)

    def test_many_numbers_of_great_marks(self):
        far = far_numbers(31, 150)
        span = Span(far)
        for place in [0, 1, 2 ** span.rank() - 1] + far_numbers(32, 60, 2 ** span.rank()):
            number = span.nth(place)
            self.assertTrue(span.holds(number))
            self.assertEqual(span.order_of(number), place)
            self.assertEqual((span.below(number), span.below(number + 1)), (place, place + 1))
            made = span.made_of(number)
            self.assertEqual(made, sorted(set(made)))
            self.assertEqual(sum_at_places(far, made), number)
        for number in far_numbers(33, 60):
            rest = span.rest(number)
            self.assertTrue(span.holds(number ^ rest))
            self.assertLessEqual(rest, number)
            for row in span.rows():
                self.assertLess(rest, rest ^ row)
            below = span.below(number)
            self.assertTrue(below == 0 or span.nth(below - 1) < number)
            self.assertTrue(below == 2 ** span.rank() or span.nth(below) >= number)

    def test_lists_handed_in_and_told_and_changed_behind(self):
        numbers = [5, 3, 9]
        span = Span(numbers)
        self.assertEqual(numbers, [5, 3, 9])
        numbers[0] = 64
        numbers.append(32)
        self.check(span, [5, 3, 9])
        for ask in (span.rows, lambda: span.made_of(6), lambda: span.made_of(15)):
            told = ask()
            before = list(told)
            told.append(1)
            told[0] = 40
            self.assertEqual(ask(), before)
        self.check(span, [5, 3, 9])

    def test_by_names(self):
        span = Span(numbers=[3])
        self.assertIs(span.add(number=5), True)
        self.assertIs(span.holds(number=6), True)
        self.assertEqual(span.nth(place=1), 3)
        self.assertEqual(span.order_of(number=5), 2)
        self.assertEqual(span.below(bound=6), 3)
        self.assertEqual(span.rest(number=7), 1)
        self.assertEqual(span.made_of(number=6), [0, 1])


if __name__ == "__main__":
    unittest.main()
