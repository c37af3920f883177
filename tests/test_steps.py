import random
import sys
import unittest

from helper import ANYTHINGS, even_one_by_one, far_numbers, otherwise, refused, same

from firstbooks.errors import BadSigns, NoStep, TooMany
from firstbooks.even import even_book, even_first, even_nth
from firstbooks.steps import (
    even_paper, is_step, led_on, shows_even, step_greatest, step_least, steps_many,
)


BELOW = 320
BOOKS = even_one_by_one(BELOW)
MOST = max(BOOKS)


def steps_of(number, book):
    """Tell all steps of a small number for a book, by going through all d."""
    return [d for d in range(1, number // 2 + 1) if BOOKS[number - d] == BOOKS[number - 2 * d] == book]


KNOWN = {}

# A far number is gone through sign by sign, one call in another.
sys.setrecursionlimit(5000)


def pairs(*asked):
    """Tell how many d from 0 on give one - d in a book and two - 2 * d in another, the least and the greatest."""
    if asked not in KNOWN:
        KNOWN[asked] = pairs_by_signs(*asked)
    return KNOWN[asked]


def pairs_by_signs(one, two, book, beside):
    if one < 27 or two < 27:
        found = [d for d in range(max(one, two, 0) + 1) if one >= d and two >= 2 * d
                 and even_book(one - d) == book and even_book(two - 2 * d) == beside]
        return (len(found), min(found), max(found)) if found else (0, None, None)
    many, least, greatest = 0, [], []
    for sign in range(3):
        for head in heads(book, (one - sign) % 3):
            for other in heads(beside, (two - 2 * sign) % 3):
                told = pairs((one - sign) // 3, (two - 2 * sign) // 3, head, other)
                if told[0]:
                    many += told[0]
                    least.append(3 * told[1] + sign)
                    greatest.append(3 * told[2] + sign)
    return (many, min(least), max(greatest)) if many else (0, None, None)


def heads(book, sign):
    """Tell the books of the numbers n such that 3 * n + sign lies in a book."""
    return [head for head in range((2 * book) // 3 - 1, (2 * book) // 3 + 2)
            if head >= 0 and (3 * head + sign) // 2 == book]


def told_of(number, book):
    return steps_many(number, book), step_least(number, book), step_greatest(number, book)


def far_pairs():
    """Tell far numbers with books less than their own, their own, and greater ones."""
    told = []
    for number in far_numbers(8, 12) + [10 ** 200 - 1, 10 ** 199, 3 ** 400, 3 ** 400 - 1, 2 * 3 ** 300]:
        own = even_book(number)
        for book in sorted({0, 1, 2, own // 2, own - 1, own - 2, own + 1, own + 2, own * 2, 10 ** 200 - 1}):
            if book >= 0 and book != own:
                told.append((number, book))
    for book in (0, 1, 3, 60, 199):
        for number in (even_nth(book, 10 ** 60), even_nth(book, 10 ** 150 + 7)):
            told.extend((number, other) for other in (0, 1, 5, book + 1, book + 40) if other != book)
    return told


class TestSteps(unittest.TestCase):
    def test_by_going_through_all_d(self):
        more = 0
        for number in range(BELOW):
            for book in range(MOST + 4):
                steps = steps_of(number, book)
                wanted = (len(steps), steps[0], steps[-1]) if steps else (0, None, None)
                self.assertTrue(same(told_of(number, book), wanted), (number, book))
                more += bool(steps) and book > BOOKS[number]
            self.assertEqual(steps_of(number, BOOKS[number]), [])
        # For books greater than a number's own there are steps, too.
        self.assertGreater(more, 100)

    def test_lesser_books_have_steps_and_the_own_one_none(self):
        for number in range(BELOW):
            self.assertTrue(all(steps_many(number, book) for book in range(BOOKS[number])))
            self.assertEqual(told_of(number, BOOKS[number]), (0, None, None))
        for number in far_numbers(3, 20) + [10 ** 200 - 1, 3 ** 400, 3 ** 400 - 1]:
            self.assertEqual(told_of(number, even_book(number)), (0, None, None))

    def test_numbers_without_steps(self):
        for number in (0, 1):
            for book in (0, 1, 5, 10 ** 199):
                self.assertTrue(same(told_of(number, book), (0, None, None)))
        self.assertTrue(same(told_of(2, 0), (1, 1, 1)))
        self.assertTrue(same(told_of(8, 0), (1, 4, 4)))
        self.assertTrue(same(told_of(BELOW, 10 ** 200 - 1), (0, None, None)))

    def test_is_step_by_going_through_all_d(self):
        for number in range(0, BELOW, 3):
            for book in range(MOST + 2):
                steps = steps_of(number, book)
                for d in range(-2, number + 3):
                    self.assertIs(is_step(number, book, d), d in steps)

    def test_is_step_of_things_of_any_kind(self):
        for number, book in ((0, 0), (2, 0), (8, 0), (8, 1), (8, 2), (26, 1), (10 ** 199, 0)):
            for thing in ANYTHINGS + [0, -1, number, number + 1, 10 ** 199, 1.0, "1", [1], (1,)]:
                self.assertIs(is_step(number, book, thing), False)
        self.assertIs(is_step(2, 0, 1), True)
        self.assertIs(is_step(2, 0, True), False)

    def test_none_of_them_below_nought(self):
        for number in range(40):
            for d in range(number // 2 + 1, number + 2):
                for book in range(3):
                    self.assertIs(is_step(number, book, d), False)

    def test_far_numbers(self):
        there = 0
        for number, book in far_pairs():
            many, least, greatest = told_of(number, book)
            wanted = pairs(number, number, book, book)
            self.assertTrue(same((many, least, greatest), wanted))
            if book < even_book(number):
                self.assertGreater(many, 0)
            if not many:
                continue
            there += 1
            for d in (least, greatest):
                self.assertEqual((even_book(number - d), even_book(number - 2 * d)), (book, book))
                self.assertIs(is_step(number, book, d), True)
            self.assertLessEqual(2 * greatest, number)
            self.assertIs(is_step(number, book, greatest + 10 ** 200), False)
            self.assertEqual(least == greatest, many == 1)
        self.assertGreater(there, 60)

    def test_far_steps_that_are_none(self):
        pick = random.Random(6)
        for number in far_numbers(5, 10) + [10 ** 200 - 1]:
            book = even_book(number) // 2
            for _ in range(20):
                d = pick.randrange(number // 2 + 1)
                wanted = d > 0 and even_book(number - d) == book == even_book(number - 2 * d)
                self.assertIs(is_step(number, book, d), wanted)

    def test_by_names(self):
        self.assertEqual(steps_many(number=2, book=0), 1)
        self.assertEqual(step_least(number=2, book=0), 1)
        self.assertEqual(step_greatest(number=2, book=0), 1)
        self.assertIs(is_step(number=2, book=0, step=1), True)


class TestPapers(unittest.TestCase):
    def fits(self, number, thing):
        """Tell whether a thing is a paper of a small number, by going through all d."""
        if not isinstance(thing, (list, tuple)) or len(thing) != BOOKS[number]:
            return False
        return all(type(d) is int and d in steps_of(number, book) for book, d in enumerate(thing))

    def test_told_papers(self):
        for number in range(BELOW):
            paper = even_paper(number)
            self.assertIs(type(paper), list)
            self.assertTrue(self.fits(number, paper))
            self.assertIs(shows_even(number, paper), True)
            self.assertIs(shows_even(number, tuple(paper)), True)

    def test_any_other_that_fits(self):
        pick = random.Random(2)
        for number in range(0, BELOW, 7):
            for _ in range(10):
                paper = [pick.choice(steps_of(number, book)) for book in range(BOOKS[number])]
                self.assertIs(shows_even(number, paper), True)

    def test_bent_papers(self):
        for number in list(range(0, 60, 3)) + [161, 242, 300]:
            for thing in otherwise(even_paper(number)):
                self.assertIs(shows_even(number, thing), self.fits(number, thing), (number, thing))
            for other in range(0, 60, 7):
                paper = even_paper(other)
                self.assertIs(shows_even(number, paper), self.fits(number, paper))

    def test_things_of_any_kind(self):
        for number in (0, 1, 2, 8, 26, 161):
            for thing in ANYTHINGS:
                self.assertIs(shows_even(number, thing), self.fits(number, thing))
                self.assertIs(shows_even(number, [thing] * BOOKS[number]), self.fits(number, [thing] * BOOKS[number]))
        self.assertIs(shows_even(2, [1]), True)
        for thing in ([True], [1.0], ["1"], [[1]], {1: 1}, {1}, "1", range(1, 2), [2], [1, 1], []):
            self.assertIs(shows_even(2, thing), False)

    def test_too_many(self):
        for book in (199, 200):
            paper = even_paper(even_first(book))
            self.assertEqual(len(paper), book)
            self.assertIs(shows_even(even_first(book), paper), True)
        for number in (even_first(201), even_nth(201, 10 ** 150), even_first(10 ** 30), 10 ** 200 - 1, 3 ** 400 - 1):
            with self.assertRaises(ArithmeticError) as caught:
                even_paper(number)
            self.assertIs(caught.exception.__class__, TooMany)
            self.assertTrue(same(vars(caught.exception), {"many": even_book(number)}))

    def test_a_paper_of_a_book_above_two_hundred(self):
        for number in (even_first(201), even_first(260) + 3, even_nth(230, 10 ** 100)):
            book = even_book(number)
            self.assertGreater(book, 200)
            paper = [step_greatest(number, lesser) for lesser in range(book)]
            self.assertIs(shows_even(number, paper), True)
            self.assertIs(shows_even(number, tuple(paper)), True)
            self.assertIs(shows_even(number, paper[:-1]), False)
            self.assertIs(shows_even(number, paper + [1]), False)
            self.assertIs(shows_even(number, paper[:100] + [paper[100] + 1] + paper[101:]), False)
            self.assertIs(shows_even(number, paper[:-1] + [None]), False)
        self.assertIs(shows_even(10 ** 200 - 1, []), False)
        self.assertIs(shows_even(10 ** 200 - 1, [1] * 200), False)

    def test_far_papers(self):
        for book in (0, 1, 5, 77, 200):
            number = even_nth(book, 10 ** 150 + 3)
            paper = even_paper(number)
            self.assertEqual(len(paper), book)
            for lesser, d in enumerate(paper):
                self.assertEqual((even_book(number - d), even_book(number - 2 * d)), (lesser, lesser))
            self.assertIs(shows_even(number, paper), True)
            self.assertIs(shows_even(number + 1, paper), False)

    def test_what_is_told_is_the_askers_own(self):
        paper = even_paper(8)
        paper.append(1)
        self.assertEqual(len(even_paper(number=8)), 2)
        kept = even_paper(8)
        self.assertIs(shows_even(number=8, paper=kept), True)
        self.assertEqual(kept, even_paper(8))


class TestLedOn(unittest.TestCase):
    def test_by_no_signs(self):
        self.assertTrue(same(led_on(2, 0, 1, []), (2, 0, 1)))
        self.assertTrue(same(led_on(8, 1, step_least(8, 1), ()), (8, 1, step_least(8, 1))))

    def test_by_one_sign(self):
        for number in range(0, 100):
            for book in range(BOOKS[number] + 2):
                for d in steps_of(number, book)[:3]:
                    for sign in range(3):
                        told = led_on(number, book, d, [sign])
                        self.assertTrue(same(told, (3 * number + sign, (3 * book + sign) // 2, 3 * d)))
                        if told[0] < BELOW:
                            self.assertIn(told[2], steps_of(told[0], told[1]))

    def test_by_signs_one_behind_the_other(self):
        self.assertTrue(same(led_on(2, 0, 1, [1, 2]), (23, 1, 9)))
        self.assertTrue(same(led_on(2, 0, 1, [2, 0, 1]), (73, 2, 27)))
        pick = random.Random(3)
        for number, book in [(number, book) for number in (2, 8, 26, 200, 301) for book in range(BOOKS[number])]:
            d = pick.choice(steps_of(number, book))
            for many in (1, 2, 5, 40):
                signs = [pick.randrange(3) for _ in range(many)]
                told = led_on(number, book, d, signs)
                self.assertTrue(same(led_on(number, book, d, tuple(signs)), told))
                self.assertIs(is_step(told[0], told[1], told[2]), True)
                self.assertEqual(told[2], d * 3 ** many)
                self.assertEqual(told[0], number * 3 ** many + int("".join(map(str, signs)), 3))
                by_one = (number, book, d)
                for sign in signs:
                    by_one = led_on(*by_one, [sign])
                self.assertEqual(told, by_one)

    def test_two_thousand_signs_and_far_numbers(self):
        pick = random.Random(4)
        number = 10 ** 200 - 1
        book = even_book(number) // 2
        for signs in ([], [0] * 2000, [2] * 2000, [pick.randrange(3) for _ in range(2000)]):
            told = led_on(number, book, step_greatest(number, book), signs)
            self.assertIs(is_step(*told), True)
            self.assertEqual(told[0] // 3 ** len(signs), number)

    def test_things_that_are_no_steps(self):
        for number, book in ((0, 0), (2, 1), (8, 0), (8, 2), (10 ** 199, 0)):
            for thing in ANYTHINGS + [0, -1, 1, number, 10 ** 199, 1.0]:
                for signs in ([], [1], [3], None, 5):
                    refused(self, NoStep, lambda: led_on(number, book, thing, signs), step=thing)
        for thing in (True, 1.0, "1", [1], 2):
            refused(self, NoStep, lambda: led_on(2, 0, thing, [0]), step=thing)
        refused(self, NoStep, lambda: led_on(2, 1, 1, [0]), step=1)

    def test_things_that_are_no_signs(self):
        for thing in ANYTHINGS + [0, 1, "012", {0: 1}, {0, 1}, range(3)]:
            if thing not in ([], (), [1], (1,)):
                refused(self, BadSigns, lambda: led_on(2, 0, 1, thing))
        for thing in ANYTHINGS + [3, -1, 4, 10 ** 199, "0", 1.0, False, True, [0], None]:
            for signs in ([thing], [0, 1, thing], (thing, 2), [2] * 1999 + [thing], [thing, thing]):
                refused(self, BadSigns, lambda: led_on(2, 0, 1, signs))

    def test_what_is_handed_in_stays(self):
        signs = [1, 2]
        self.assertEqual(led_on(number=2, book=0, step=1, signs=signs), (23, 1, 9))
        self.assertEqual(signs, [1, 2])


if __name__ == "__main__":
    unittest.main()
