import unittest

from helper import ANYTHINGS, far_numbers, refused, same

from firstbooks.errors import BadPrime
from firstbooks.long import is_long_step, is_taken, long_count, long_nth, long_step

PRIMES = [prime for prime in range(3, 98) if all(prime % other for other in range(2, prime))]


def taken_one_by_one(prime, below):
    """Tell the numbers below a bound that are taken, by [30]'s first sentence alone."""
    taken = set()
    for number in range(below):
        if not any(steps(prime, number, d, taken) for d in range(1, number // (prime - 1) + 1)):
            taken.add(number)
    return taken


def steps(prime, number, d, taken):
    return d > 0 and all(number - times * d in taken for times in range(1, prime))


SOME = {3: 400, 5: 700, 7: 800, 11: 1500, 13: 400}
TAKEN = {prime: taken_one_by_one(prime, below) for prime, below in SOME.items()}


def signs_of(prime, number):
    told = []
    while number:
        told.append(number % prime)
        number //= prime
    return told


class TestPrimes(unittest.TestCase):
    def refused(self, thing):
        for ask in (
            lambda: is_taken(thing, 5), lambda: long_step(thing, 5), lambda: is_long_step(thing, 5, 1),
            lambda: is_long_step(thing, 5, None), lambda: long_nth(thing, 5), lambda: long_count(thing, 5),
            lambda: is_taken(thing, 0), lambda: long_count(thing, 0), lambda: long_nth(thing, 10 ** 199),
        ):
            refused(self, BadPrime, ask, prime=thing)

    def test_things_that_are_no_primes(self):
        for thing in ANYTHINGS + [0, 1, 2, 4, 9, 15, 91, 96, 98, 99, 101, 103, 10 ** 199, 3.0, "3", [3], (3,), True, -3]:
            self.refused(thing)
        for thing in range(-5, 200):
            if thing not in PRIMES:
                self.refused(thing)

    def test_all_primes(self):
        self.assertEqual(len(PRIMES), 24)
        for prime in PRIMES:
            self.assertIs(is_taken(prime, prime - 2), True)
            self.assertIs(is_taken(prime, prime - 1), False)
            self.assertTrue(same(long_step(prime, prime - 1), 1))
            self.assertIs(is_long_step(prime, prime - 1, 1), True)
            self.assertTrue(same((long_nth(prime, prime - 1), long_count(prime, prime)), (prime, prime - 1)))


class TestLong(unittest.TestCase):
    def test_by_going_one_by_one(self):
        for prime, below in SOME.items():
            taken = TAKEN[prime]
            for number in range(below):
                self.assertIs(is_taken(prime, number), number in taken)
                told = long_step(prime, number)
                if number in taken:
                    self.assertIsNone(told)
                else:
                    self.assertIs(type(told), int)
                    self.assertTrue(steps(prime, number, told, taken))
                    self.assertIs(is_long_step(prime, number, told), True)

    def test_steps_and_other_numbers(self):
        more = 0
        for prime, below in SOME.items():
            taken = TAKEN[prime]
            for number in range(0, below, 1 if prime < 5 else 3):
                found = [d for d in range(number + 3) if is_long_step(prime, number, d)]
                self.assertEqual(found, [d for d in range(number + 3) if steps(prime, number, d, taken)])
                more += len(found) > 1
        # There are numbers of several steps.
        self.assertGreater(more, 10)

    def test_things_that_are_no_steps(self):
        for prime in (3, 5, 97):
            for number in (0, 1, prime - 1, 2 * prime - 1, 10 ** 199 - 10 ** 199 % prime + prime - 1):
                for thing in ANYTHINGS + [0, -1, number + 1, 10 ** 199, 1.0]:
                    self.assertIs(is_long_step(prime, number, thing), False)
        self.assertIs(is_long_step(3, 2, True), False)
        self.assertIs(is_long_step(3, 2, 1), True)
        # No number below 0 is taken.
        self.assertIs(is_long_step(3, 2, 2), False)
        self.assertIs(is_long_step(5, 4, 2), False)

    def test_places_and_bounds(self):
        for prime, below in SOME.items():
            taken = sorted(TAKEN[prime])
            self.assertTrue(same([long_nth(prime, place) for place in range(len(taken))], taken))
            self.assertGreaterEqual(long_nth(prime, len(taken)), below)
            for bound in range(below + 1):
                self.assertTrue(same(long_count(prime, bound), sum(1 for number in taken if number < bound)))

    def test_far_numbers(self):
        for prime in PRIMES:
            for number in far_numbers(prime, 4) + [prime ** 100, prime ** 100 - 1]:
                signs = signs_of(prime, number)
                self.assertIs(is_taken(prime, number), prime - 1 not in signs)
                told = long_step(prime, number)
                if told is None:
                    self.assertNotIn(prime - 1, signs)
                    self.assertIs(is_long_step(prime, number, 1), False)
                    continue
                self.assertTrue(all(is_taken(prime, number - times * told) for times in range(1, prime)))
                self.assertIs(is_long_step(prime, number, told), True)
                self.assertIs(is_long_step(prime, number, told + prime ** 200), False)

    def test_far_places_and_bounds(self):
        for prime in PRIMES:
            last = -1
            for place in sorted({0, 1, prime, *far_numbers(prime + 3, 4), 10 ** 200 - 1}):
                number = long_nth(prime, place)
                self.assertGreater(number, last)
                last = number
                self.assertIs(is_taken(prime, number), True)
                self.assertEqual((long_count(prime, number), long_count(prime, number + 1)), (place, place + 1))
            for bound in far_numbers(prime + 4, 6) + [prime ** 50, prime ** 50 - 1, prime ** 50 + prime - 1]:
                many = long_count(prime, bound)
                self.assertEqual(long_count(prime, bound + 1) - many, int(is_taken(prime, bound)))
                self.assertGreaterEqual(long_nth(prime, many), bound)
                self.assertLess(long_nth(prime, many - 1), bound)
            self.assertEqual(long_count(prime, prime ** 70), (prime - 1) ** 70)

    def test_by_names(self):
        self.assertIs(is_taken(prime=3, number=2), False)
        self.assertEqual(long_step(prime=3, number=2), 1)
        self.assertIs(is_long_step(prime=3, number=2, step=1), True)
        self.assertEqual(long_nth(prime=3, place=2), 3)
        self.assertEqual(long_count(prime=3, below=4), 3)


if __name__ == "__main__":
    unittest.main()
