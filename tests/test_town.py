import random
import unittest

from helper import ANYTHINGS, books_one_by_one, far_bars, far_numbers, refused, same

from firstbooks.apart import parts
from firstbooks.errors import BadBar, BadMoment, NoEntry, SameMoment
from firstbooks.house import House
from firstbooks.town import Town

LAST = 10 ** 12

BAD_MOMENTS = ANYTHINGS + [-1, LAST + 1, 10 ** 199, True, False, 3.0, "3", (3,)]


def town_of(entries):
    town = Town()
    for moment, bar in entries:
        town.turn(moment, bar)
    return town


def some_rows(seed, many, bars=15):
    """Tell rising entries of few bars, such that bars are turned again and again."""
    pick = random.Random(seed)
    moments = sorted(pick.sample(range(4 * many), many))
    return [(moment, pick.randrange(1, bars + 1)) for moment in moments]


def inside(rows, upto=None):
    """Tell the bars that are in up to a moment."""
    bars = {bar for _, bar in rows}
    return sorted(b for b in bars if sum(1 for m, bar in rows if bar == b and (upto is None or m <= upto)) % 2)


SOME_ROWS = [some_rows(seed, many) for seed, many in enumerate((0, 1, 2, 3, 7, 12, 20, 20))] + [
    [(0, 1), (1, 2), (2, 3), (3, 1), (LAST, 2)],
    [(5, 4), (6, 6), (7, 4), (8, 6)],
    [(0, 6), (3, 5), (4, 5), (9, 6), (10, 7)],
]


class TestEntries(unittest.TestCase):
    def same_towns(self, town, rows):
        """Look at all that is told of a town, by its entries."""
        self.assertTrue(same(town.entries(), rows))
        self.assertTrue(same(len(town), len(rows)))
        self.assertTrue(same(town.bars(), inside(rows)))
        self.assertEqual(town.house(), House(inside(rows)))
        self.assertEqual(town.moves(13), moves_of(rows, 13))
        for moment, _ in rows:
            self.assertEqual(town.moved(moment), moved_by(rows, moment))

    def test_told_in_any_order(self):
        pick = random.Random(3)
        for rows in SOME_ROWS:
            for _ in range(4):
                told = list(rows)
                pick.shuffle(told)
                town = town_of(told)
                self.same_towns(town, rows)
                # The same again behind asks, and with some dropped and told again.
                for moment, bar in told[::2]:
                    self.assertIsNone(town.drop(moment))
                self.same_towns(town, sorted(told[1::2]))
                for moment, bar in told[::2]:
                    self.assertIsNone(town.turn(moment, bar))
                self.same_towns(town, rows)

    def test_upto(self):
        for rows in SOME_ROWS:
            town = town_of(rows[::-1])
            for upto in list(range(-1, 90)) + [LAST - 1, LAST, None]:
                there = [row for row in rows if upto is None or row[0] <= upto]
                self.assertTrue(same(town.entries(upto=upto), there))
                self.assertTrue(same(town.bars(upto=upto), inside(rows, upto)))
                house = town.house(upto=upto)
                self.assertIsInstance(house, House)
                self.assertEqual(house.bars(), inside(rows, upto))

    def test_a_new_town(self):
        town = Town()
        self.same_towns(town, [])
        self.assertEqual((town.entries(upto=5), town.bars(upto=0), len(town.house(upto=LAST))), ([], [], 0))
        self.assertEqual(town.same(None, 4), (True, True))
        self.assertIsNone(town.comes(1, 0))
        self.assertEqual(len(Town()), 0)

    def test_the_least_and_the_greatest_moment(self):
        town = town_of([(LAST, 1), (0, 2)])
        self.assertEqual(town.entries(), [(0, 2), (LAST, 1)])
        self.assertEqual(town.entries(upto=0), [(0, 2)])
        self.assertEqual(town.entries(upto=LAST - 1), [(0, 2)])
        self.assertEqual((town.moved(0), town.moved(LAST)), (2, 1))

    def test_things_that_are_no_moments(self):
        for rows in SOME_ROWS[::3]:
            town = town_of(rows)
            for thing in BAD_MOMENTS:
                for bar in (1, 0, None, 2 ** 190):
                    refused(self, BadMoment, lambda: town.turn(thing, bar), moment=thing)
            self.same_towns(town, rows)

    def test_a_moment_that_has_an_entry(self):
        for rows in SOME_ROWS:
            town = town_of(rows)
            for moment, bar in rows:
                for other in (bar, 1, 9, 0, None, True):
                    refused(self, SameMoment, lambda: town.turn(moment, other), moment=moment)
            self.same_towns(town, rows)

    def test_things_that_are_no_bars(self):
        for rows in SOME_ROWS:
            town = town_of(rows)
            free = 1000
            for thing in ANYTHINGS + [0, 2 ** 190, 10 ** 199]:
                refused(self, BadBar, lambda: town.turn(free, thing), bar=thing)
            self.same_towns(town, rows)
        town.turn(free, 2 ** 190 - 1)
        self.assertIn((free, 2 ** 190 - 1), town.entries())

    def test_moments_without_an_entry(self):
        for rows in SOME_ROWS:
            town = town_of(rows)
            moments = [moment for moment, _ in rows]
            for thing in BAD_MOMENTS + [number for number in range(90) if number not in moments] + [LAST - 1]:
                refused(self, NoEntry, lambda: town.drop(thing), moment=thing)
                refused(self, NoEntry, lambda: town.moved(thing), moment=thing)
            self.same_towns(town, rows)
            for moment in moments:
                town.drop(moment)
                refused(self, NoEntry, lambda: town.drop(moment), moment=moment)
                refused(self, NoEntry, lambda: town.moved(moment), moment=moment)
            self.same_towns(town, [])

    def test_true_is_no_moment(self):
        town = town_of([(0, 3), (1, 5)])
        for thing in (True, False, 1.0, 0.0):
            refused(self, NoEntry, lambda: town.drop(thing), moment=thing)
            refused(self, NoEntry, lambda: town.moved(thing), moment=thing)
            refused(self, BadMoment, lambda: town.turn(thing, 7), moment=thing)
        self.same_towns(town, [(0, 3), (1, 5)])

    def test_an_entry_dropped_and_told_with_another_bar(self):
        town = town_of([(4, 1), (6, 2)])
        self.assertEqual(town.moved(4), 1)
        town.drop(4)
        town.turn(4, 2)
        self.same_towns(town, [(4, 2), (6, 2)])
        town.drop(6)
        town.turn(5, 7)
        self.same_towns(town, [(4, 2), (5, 7)])

    def test_what_is_told_is_the_askers(self):
        rows = [(4, 1), (6, 2), (7, 3)]
        town = town_of(rows)
        for _ in range(2):
            town.entries().append((9, 9))
            town.entries().clear()
            town.bars().append(7)
            town.moves(3).append((9, 9, 9))
            house = town.house()
            house.take(1)
            house.put(2 ** 100)
            self.same_towns(town, rows)
            told = town.house(upto=6)
            told.put(77)
            self.assertEqual(town.house(upto=6), House([1, 2]))
        self.assertEqual(town.house(), House([1, 2, 3]))

    def test_two_towns_are_two(self):
        one, other = Town(), Town()
        one.turn(1, 1)
        self.assertEqual((len(one), len(other), other.entries()), (1, 0, []))

    def test_by_names(self):
        town = Town()
        town.turn(moment=3, bar=1)
        town.turn(moment=5, bar=2)
        self.assertEqual(town.entries(upto=3), [(3, 1)])
        self.assertEqual((town.bars(upto=3), town.house(upto=3)), ([1], House([1])))
        self.assertEqual(town.moves(number=3, since=3, upto=5), [(5, 1, 0)])
        self.assertEqual((town.moved(moment=5), town.comes(number=3, book=1)), (2, 3))
        self.assertEqual(town.same(one=3, other=5), (False, False))
        town.drop(moment=3)
        self.assertEqual(town.entries(), [(5, 2)])
        # Those behind a star by their names alone.
        for ask in (lambda: town.entries(5), lambda: town.bars(5), lambda: town.house(5), lambda: town.moves(3, 1),
                    lambda: town.moves(3, 1, 5), lambda: town.moves(3, 1, upto=5)):
            self.assertRaises(TypeError, ask)


def moves_of(rows, number, since=None, upto=None):
    """Tell the moves of a number, by going through all numbers ahead of each entry and behind it."""
    told = []
    for moment, _ in rows:
        if (since is not None and moment <= since) or (upto is not None and moment > upto):
            continue
        before = books_one_by_one(inside(rows, moment - 1), number + 1)[number]
        behind = books_one_by_one(inside(rows, moment), number + 1)[number]
        if before != behind:
            told.append((moment, before, behind))
    return told


def moved_by(rows, moment):
    """Tell the least number that an entry moves, by going through all numbers."""
    below = 16
    before = books_one_by_one(inside(rows, moment - 1), below)
    behind = books_one_by_one(inside(rows, moment), below)
    return next((number for number in range(below) if before[number] != behind[number]), None)


class TestMoves(unittest.TestCase):
    def test_of_all_time_by_going_one_by_one(self):
        for rows in SOME_ROWS:
            town = town_of(rows[::-1])
            for number in list(range(16)) + [21, 37]:
                told = town.moves(number)
                self.assertTrue(same(told, moves_of(rows, number)))
                self.assertEqual(town.moves(number, since=None, upto=None), told)

    def test_since_and_upto(self):
        for rows in SOME_ROWS:
            town = town_of(rows)
            moments = [moment for moment, _ in rows][:8] + [0, 2, 33, LAST]
            for number in (1, 3, 6, 12):
                for since in moments + [None]:
                    for upto in moments + [None]:
                        told = town.moves(number, since=since, upto=upto)
                        self.assertTrue(same(told, moves_of(rows, number, since, upto)))

    def test_since_is_behind_and_upto_is_within(self):
        town = town_of([(0, 1), (5, 1), (9, 1)])
        self.assertEqual(town.moves(1), [(0, 0, 1), (5, 1, 0), (9, 0, 1)])
        self.assertEqual(town.moves(1, since=0), [(5, 1, 0), (9, 0, 1)])
        self.assertEqual(town.moves(1, upto=5), [(0, 0, 1), (5, 1, 0)])
        self.assertEqual(town.moves(1, since=5, upto=9), [(9, 0, 1)])
        self.assertEqual(town.moves(1, since=4, upto=5), [(5, 1, 0)])
        self.assertEqual(town.moves(1, since=5, upto=5), [])
        self.assertEqual(town.moves(1, since=9), [])
        self.assertEqual(town.moves(1, since=9, upto=5), [])

    def test_the_least_number_that_an_entry_moves(self):
        none = 0
        for rows in SOME_ROWS:
            town = town_of(rows)
            for moment, _ in rows:
                told = town.moved(moment)
                self.assertTrue(same(told, moved_by(rows, moment)))
                none += told is None
                if told is not None:
                    self.assertIn(moment, [row[0] for row in town.moves(told)])
        self.assertGreater(none, 3)

    def test_comes(self):
        for rows in SOME_ROWS:
            town = town_of(rows)
            for number in range(16):
                moves = moves_of(rows, number)
                for book in list(range(9)) + [10 ** 199]:
                    moments = [moment for moment, _, behind in moves if behind == book]
                    self.assertTrue(same(town.comes(number, book), moments[0] if moments else None))
        # In book 0 from the start on, a number comes there only by a move back.
        town = town_of([(3, 1), (8, 1)])
        self.assertEqual((town.comes(1, 0), town.comes(1, 1), town.comes(2, 0)), (8, 3, None))

    def test_same(self):
        told = set()
        for rows in SOME_ROWS:
            town = town_of(rows)
            moments = [moment for moment, _ in rows][:9] + [0, 2, 33, LAST, None]
            for one in moments:
                for other in moments:
                    bars, others = inside(rows, one), inside(rows, other)
                    alike = books_one_by_one(bars, 16) == books_one_by_one(others, 16)
                    self.assertTrue(same(town.same(one, other), (bars == others, alike)))
                    told.add((bars == others, alike))
        self.assertEqual(told, {(True, True), (False, True), (False, False)})


class TestFar(unittest.TestCase):
    def test_two_hundred_entries(self):
        pick = random.Random(7)
        bars = far_bars(5, 120)
        rows = [(moment, pick.choice(bars)) for moment in sorted(pick.sample(range(LAST), 200))]
        town = town_of(rows[::-1])
        numbers = far_numbers(4, 4) + [3, 2 ** 189 + 1]
        books = [0] * len(numbers)
        found = [[] for _ in numbers]
        before = House()
        for moment, _ in rows:
            house = House(inside(rows, moment))
            self.assertEqual(town.moved(moment), parts(before, house))
            before = house
            for k, number in enumerate(numbers):
                if house.book_of(number) != books[k]:
                    found[k].append((moment, books[k], house.book_of(number)))
                    books[k] = house.book_of(number)
        for k, number in enumerate(numbers):
            self.assertEqual(town.moves(number), found[k])
            middle = rows[99][0]
            self.assertEqual(town.moves(number, since=middle), [row for row in found[k] if row[0] > middle])
            self.assertEqual(town.moves(number, upto=middle), [row for row in found[k] if row[0] <= middle])
            for _, _, book in found[k]:
                moment = town.comes(number, book)
                self.assertEqual(moment, next(row[0] for row in found[k] if row[2] == book))

    def test_all_answers_are_of_the_entries_that_stand(self):
        pick = random.Random(9)
        rows = some_rows(11, 60, 63)
        town = Town()
        there = {}
        for moment, bar in pick.sample(rows, 60):
            town.turn(moment, bar)
            there[moment] = bar
            number = pick.randrange(64)
            self.assertEqual(town.moves(number), town_of(sorted(there.items())).moves(number))
            if pick.randrange(3) == 0:
                dropped = pick.choice(list(there))
                town.drop(dropped)
                del there[dropped]
            alike = town_of(sorted(there.items()))
            self.assertEqual((town.entries(), town.bars(), len(town)), (alike.entries(), alike.bars(), len(alike)))
            self.assertEqual(town.moves(number), alike.moves(number))
            self.assertEqual(town.comes(number, 1), alike.comes(number, 1))
            self.assertEqual([town.moved(moment) for moment in there], [alike.moved(moment) for moment in there])
            self.assertEqual(town.same(60, None), alike.same(60, None))


if __name__ == "__main__":
    unittest.main()
