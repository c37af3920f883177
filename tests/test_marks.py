import unittest

from helper import far_numbers

from firstbooks.marks import marks, number_of, top


class TestMarks(unittest.TestCase):
    def test_of_few(self):
        self.assertEqual(marks(0), [])
        self.assertEqual(marks(1), [0])
        self.assertEqual(marks(8), [3])
        self.assertEqual(marks(11), [0, 1, 3])

    def test_of_far_ones(self):
        self.assertEqual(marks(2 ** 664 + 2 ** 189 + 1), [0, 189, 664])
        self.assertEqual(marks(2 ** 190 - 1), list(range(190)))

    def test_number_of_none_and_of_one(self):
        self.assertEqual(number_of([]), 0)
        self.assertEqual(number_of([0]), 1)
        self.assertEqual(number_of([199]), 2 ** 199)

    def test_number_of_any_order_and_of_tuples(self):
        for places in ([0, 1, 3], [3, 0, 1], (1, 3, 0), (3, 1, 0)):
            self.assertEqual(number_of(places), 11)
        self.assertEqual(number_of(()), 0)
        self.assertEqual(number_of([199, 0, 64]), 2 ** 199 + 2 ** 64 + 1)

    def test_one_behind_the_other(self):
        for number in list(range(300)) + far_numbers(1, 200, 2 ** 200):
            told = marks(number)
            self.assertIsInstance(told, list)
            self.assertEqual(told, sorted(told))
            self.assertEqual(number_of(told), number)
            self.assertEqual(number_of(tuple(reversed(told))), number)
        for places in ([], [5], [0, 7, 9], [1, 198, 199]):
            self.assertEqual(marks(number_of(places)), places)

    def test_top(self):
        self.assertIsNone(top(0))
        for power in (0, 1, 2, 63, 64, 189, 664):
            self.assertEqual(top(2 ** power), power)
            self.assertEqual(top(2 ** (power + 1) - 1), power)
        self.assertEqual(top(11), 3)
        for number in far_numbers(2, 50):
            self.assertEqual(top(number), marks(number)[-1] if number else None)

    def test_told_lists_are_the_askers(self):
        told = marks(11)
        told.append(9)
        told[0] = 5
        self.assertEqual(marks(11), [0, 1, 3])

    def test_what_is_handed_in_stays(self):
        places = [3, 0, 1]
        number_of(places)
        self.assertEqual(places, [3, 0, 1])

    def test_by_names(self):
        self.assertEqual(marks(number=6), [1, 2])
        self.assertEqual(number_of(places=[1, 2]), 6)
        self.assertEqual(top(number=6), 2)


if __name__ == "__main__":
    unittest.main()
