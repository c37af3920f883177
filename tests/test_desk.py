import random
import re
import unittest

from helper import ANYTHINGS, books_one_by_one, far_bars, far_numbers, refused, same

from firstbooks.desk import Desk
from firstbooks.errors import BadPrime, NoAsk, NoBook, NoEntry, SameMoment
from firstbooks.even import even_book, even_first
from firstbooks.house import House
from firstbooks.papers import shows_why
from firstbooks.steps import is_step, steps_many

LAST = 10 ** 12
NUMBER = "(?:0|[1-9][0-9]{0,199})"
REFUSALS = (BadPrime, NoAsk, NoBook, NoEntry, SameMoment)

# Rows that stand in a desk of one entry (5, bar 1) and are answered there.
GOOD = [
    "turn 6 0", "turn 6 0 3 189", "drop 5", "book 3", "book 3 at 5", "why 3", "why 3 at 4", "nth 1 4", "nth 0 4 at 4",
    "count 1 9", "count 1 9 at 5", "place 9", "place 9 at 0", "homes", "homes at 5", "moves 3", "even 8", "step 8 0",
    "long 3 2",
]


def small_desk():
    desk = Desk()
    desk.say("turn 5 0")
    return desk


class Model:
    """What a desk is to answer, by going through the small numbers one by one."""

    BELOW = 64

    def __init__(self):
        self.entries = {}

    def books(self, upto):
        bars = set()
        for moment in sorted(self.entries):
            if upto is None or moment <= upto:
                bars ^= {self.entries[moment]}
        return bars, books_one_by_one(bars, self.BELOW)

    def say(self, row):
        """Tell the answer, or the refusal and its field."""
        found = re.fullmatch(f"turn ({NUMBER})((?: {NUMBER})+)", row)
        if found:
            marks = [int(mark) for mark in found[2].split()]
            if int(found[1]) > LAST or marks != sorted(set(marks)) or marks[-1] > 189:
                return NoAsk, "row", row
            if int(found[1]) in self.entries:
                return SameMoment, "moment", int(found[1])
            self.entries[int(found[1])] = sum(2 ** mark for mark in marks)
            return "ok"
        found = re.fullmatch(f"drop ({NUMBER})", row)
        if found and int(found[1]) <= LAST:
            if int(found[1]) not in self.entries:
                return NoEntry, "moment", int(found[1])
            del self.entries[int(found[1])]
            return "ok"
        found = re.fullmatch(f"(book|why|nth|count|place|homes)((?: {NUMBER})*)(?: at ({NUMBER}))?", row)
        if found and (found[3] is None or int(found[3]) <= LAST):
            upto = None if found[3] is None else int(found[3])
            return self.of_house(row, found[1], [int(word) for word in found[2].split()], upto)
        found = re.fullmatch(f"moves ({NUMBER})", row)
        if found:
            return self.moves(int(found[1]))
        return NoAsk, "row", row

    def of_house(self, row, word, numbers, upto):
        if len(numbers) != {"nth": 2, "count": 2, "homes": 0}.get(word, 1):
            return NoAsk, "row", row
        bars, books = self.books(upto)
        if word == "homes":
            height = max([bar.bit_length() for bar in bars], default=0)
            return " ".join(str(books[2 ** power]) for power in range(height)) or "none"
        if word == "book":
            return str(books[numbers[0]])
        if word == "place":
            return str(books[:numbers[0]].count(books[numbers[0]]))
        if word == "why":
            return books, bars, numbers[0]
        if numbers[0] not in books:
            return NoBook, "book", numbers[0]
        there = [number for number, book in enumerate(books) if book == numbers[0]]
        if word == "nth":
            return str(there[numbers[1]])
        return str(sum(1 for number in there if number < numbers[1]))

    def moves(self, number):
        told, before = [], 0
        for moment in sorted(self.entries):
            book = self.books(moment)[1][number]
            if book != before:
                told.append(f"{moment} {book}")
            before = book
        return " ".join(told) or "none"


def said(desk, row):
    """Tell what a desk answers, or the refusal and its field."""
    try:
        return desk.say(row)
    except REFUSALS as why_not:
        (field, thing), = vars(why_not).items()
        return why_not.__class__, field, thing


def some_row(pick):
    """Tell a row, mostly one that can be answered."""
    moment, number, book = pick.randrange(25), pick.randrange(16), pick.choice([0, 0, 1, 1, 2, 3, 4, 9])
    marks = " ".join(str(mark) for mark in sorted(pick.sample(range(4), pick.choice([1, 1, 2, 3]))))
    at = pick.choice(["", "", f" at {moment}"])
    rows = [
        f"turn {moment} {marks}", f"turn {moment} {marks}", f"drop {moment}", f"book {number}{at}", f"why {number}{at}",
        f"nth {book} {pick.randrange(4)}{at}", f"count {book} {number}{at}", f"place {number}{at}", f"homes{at}",
        f"moves {number}",
    ]
    row = pick.choice(rows)
    place = pick.randrange(len(row) + 1)
    bent = row[:place] + pick.choice([" ", "\n", "\t", "x", ""]) + row[place + pick.randrange(2):]
    # Two marks that run together would be too great to go through the numbers.
    together = re.fullmatch("turn .* [1-9][0-9].*", bent)
    return bent if pick.random() < 0.15 and not together else row


class TestDesk(unittest.TestCase):
    def test_by_going_one_by_one(self):
        seen = {}
        for seed in range(12):
            pick = random.Random(seed)
            desk, model = Desk(), Model()
            for _ in range(150):
                row = some_row(pick)
                told, wanted = said(desk, row), model.say(row)
                if isinstance(wanted, tuple) and isinstance(wanted[0], list):
                    self.is_reason(told, *wanted)
                else:
                    self.assertTrue(same(told, wanted), (row, told, wanted))
                seen[wanted[0] if isinstance(wanted, tuple) and wanted[0] in REFUSALS else row.split(" ")[0]] = True
        self.assertGreaterEqual(len(seen), 13)

    def is_reason(self, told, books, bars, number):
        """Look at an answer to `why`: the book, and for each lesser book a bar."""
        book, *found = [int(word) for word in told.split(" ")]
        self.assertEqual((book, len(found)), (books[number], book))
        for lesser, bar in enumerate(found):
            self.assertTrue(bar in bars and number ^ bar < number and books[number ^ bar] == lesser)

    def test_as_the_document_writes_it(self):
        desk = Desk()
        for row, answer in (
            ("homes", "none"), ("book 7", "0"), ("why 7", "0"), ("moves 7", "none"), ("nth 0 9", "9"),
            ("turn 5 0", "ok"), ("turn 9 0 1", "ok"), ("turn 7 1", "ok"), ("homes", "1 2"), ("homes at 5", "1"),
            ("homes at 4", "none"), ("homes at 7", "1 1"), ("book 3", "3"), ("book 3 at 8", "0"), ("why 3", "3 3 2 1"),
            ("why 3 at 7", "0"), ("why 1 at 5", "1 1"), ("nth 1 2", "9"), ("nth 1 2 at 5", "5"), ("count 1 10", "3"),
            ("count 1 10 at 5", "5"), ("place 13", "3"), ("place 13 at 0", "13"), ("moves 3", "5 1 7 0 9 3"),
            ("drop 7", "ok"), ("homes", "1 0"), ("moves 3", "5 1"), ("moves 4", "none"), (f"turn {LAST} 189", "ok"),
            (f"book {2 ** 189} at {LAST}", "1"), (f"book {2 ** 189} at {LAST - 1}", "0"), (f"drop {LAST}", "ok"),
            ("even 8", "2"), ("even 0", "0"), ("step 8 0", "4"), ("step 8 2", "none"), ("step 0 0", "none"),
            ("long 3 2", "1"), ("long 3 1", "taken"), ("long 97 96", "1"),
        ):
            self.assertTrue(same(desk.say(row), answer), (row, desk.say(row) if row[0] not in "td" else None))

    def test_the_least_step(self):
        desk = Desk()
        for number in range(60):
            for book in range(5):
                steps = [d for d in range(1, number) if is_step(number, book, d)]
                self.assertEqual(desk.say(f"step {number} {book}"), str(steps[0]) if steps else "none")

    def test_far_rows(self):
        desk = Desk()
        moments = sorted(random.Random(1).sample(range(LAST + 1), 200))
        bars = far_bars(8, 200)
        for moment, bar in zip(moments[::-1], bars[::-1]):
            marks = " ".join(str(place) for place in range(190) if bar >> place & 1)
            self.assertEqual(desk.say(f"turn {moment} {marks}"), "ok")
        for upto, many in ((None, 200), (moments[99], 100), (moments[99] - 1, 99), (LAST, 200), (0, 0)):
            house = House(bars[:many])
            at = "" if upto is None else f" at {upto}"
            self.assertEqual(desk.say("homes" + at).split(" "),
                             [str(house.home(power)) for power in range(house.height())] or ["none"])
            for number in far_numbers(3, 6) + [10 ** 200 - 1, 0]:
                book = house.book_of(number)
                self.assertEqual(desk.say(f"book {number}{at}"), str(book))
                told, *found = [int(word) for word in desk.say(f"why {number}{at}").split(" ")]
                self.assertIs(shows_why(house, number, (told, list(enumerate(found)))), True)
                place = int(desk.say(f"place {number}{at}"))
                if place < 10 ** 199:
                    self.assertEqual(desk.say(f"nth {book} {place}{at}"), str(number))
                self.assertEqual(desk.say(f"count {book} {number}{at}"), str(place))
        number = 10 ** 200 - 1
        self.assertEqual(desk.say(f"even {number}"), str(even_book(number)))
        self.assertEqual(desk.say(f"even {even_first(10 ** 30)}"), str(10 ** 30))
        least = int(desk.say(f"step {number} 5"))
        self.assertIs(is_step(number, 5, least), True)
        self.assertEqual(steps_many(number, 5) > 0, True)
        moves = desk.say(f"moves {number}").split(" ")
        self.assertTrue(set(map(int, moves[::2])) <= set(moments))
        self.assertEqual(desk.say(f"book {number}"), moves[-1])

    def test_behind_what_was_dropped(self):
        desk = Desk()
        for row in ("turn 3 0", "turn 4 1", "turn 5 0 1", "drop 4", "turn 4 2", "drop 3"):
            self.assertEqual(desk.say(row), "ok")
        self.assertEqual((desk.say("homes"), desk.say("homes at 4"), desk.say("homes at 3")), ("0 1 1", "0 0 1", "none"))
        self.assertEqual(Desk().say("homes"), "none")

    def test_by_name(self):
        self.assertEqual(small_desk().say(row="book 1"), "1")


class TestNoAsk(unittest.TestCase):
    def refused_unchanged(self, thing):
        desk = small_desk()
        refused(self, NoAsk, lambda: desk.say(thing), row=thing)
        self.assertEqual((desk.say("homes"), desk.say("moves 1"), desk.say("homes at 4")), ("1", "5 1", "none"))

    def test_things_that_are_no_texts(self):
        for thing in ANYTHINGS + [b"homes", ["homes"], ("book", 3), 5, {"homes": 1}]:
            self.refused_unchanged(thing)

    def test_good_rows_are_answered(self):
        for row in GOOD:
            self.assertIsInstance(small_desk().say(row), str)

    def test_blanks_line_feeds_and_tabs(self):
        self.refused_unchanged("")
        self.refused_unchanged(" ")
        self.refused_unchanged("\n")
        for row in GOOD:
            for bent in (" " + row, row + " ", row.replace(" ", "  ", 1) if " " in row else row + "  ", row + "\n",
                         "\n" + row, row + "\t", row.replace(" ", "\t", 1) if " " in row else "\t" + row,
                         row.replace(" ", "\n", 1) if " " in row else "\n" + row, row + "\nhomes", row + "\r"):
                self.refused_unchanged(bent)

    def test_more_and_fewer_words(self):
        for row in GOOD:
            words = row.split(" ")
            if words[0] != "turn":
                self.refused_unchanged(row + " 9")
            self.refused_unchanged(row + " x")
            self.refused_unchanged("9 " + row)
            if row not in ("homes", "turn 6 0 3 189"):
                self.refused_unchanged(" ".join(words[:-1]))
        for row in ("turn", "turn 6", "drop", "book", "why", "nth", "nth 1", "count", "count 1", "place", "moves", "even",
                    "step", "step 8", "long", "long 3", "homes 3", "homes 3 at 5", "at", "at 5", "homes at", "book at 5",
                    "book 3 at", "nth 1 at 5", "book 3 at 5 at 5", "book 3 5", "homes at 5 5", "3", "drop 5 6",
                    "book at", "why at 5", "count at 5", "drop at 5", "turn at 5"):
            self.refused_unchanged(row)

    def test_other_words(self):
        for row in ("turns 6 0", "Turn 6 0", "TURN 6 0", "say 5", "books 3", "Book 3", "home", "homes? ", "first 1", "none",
                    "ok", "book three", "book -3", "book +3", "book 3.0", "book 3,0", "book 0x3", "homes AT 5", "homes to 5",
                    "behind 1 2", "ahead 1 2", "parts 1 2", "upto 5", "turn6 0", "book3", "book 3 at5", "book 1_0"):
            self.refused_unchanged(row)

    def test_numbers_as_they_are_written(self):
        for row in GOOD:
            words = row.split(" ")
            for place in range(1, len(words)):
                if words[place] == "at":
                    continue
                for word in ("0" + words[place], "00", "-" + words[place], "+" + words[place], words[place] + ".0", "",
                             "1" + 200 * "0", 5000 * "1", "x", "\u0663", "\u00b3", words[place] + "a"):
                    self.refused_unchanged(" ".join(words[:place] + [word] + words[place + 1:]))

    def test_numbers_of_two_hundred_figures(self):
        most = "9" * 200
        for row in (f"book {most}", f"why {most}", f"nth 1 {most}", f"count 1 {most}", f"place {most}", f"moves {most}",
                    f"even {most}", f"step {most} 0", f"step 8 {most}", f"long 3 {most}"):
            self.assertIsInstance(small_desk().say(row), str)
            self.refused_unchanged(row.replace(most, "9" + most))

    def test_moments(self):
        for moment in (LAST + 1, 10 ** 13, 10 ** 199):
            for row in (f"turn {moment} 1", f"drop {moment}", f"homes at {moment}", f"book 3 at {moment}",
                        f"nth 1 2 at {moment}", f"nth 9 2 at {moment}", f"count 1 2 at {moment}", f"place 3 at {moment}",
                        f"why 3 at {moment}"):
                self.refused_unchanged(row)
        desk = small_desk()
        self.assertEqual(desk.say(f"homes at {LAST}"), "1")
        self.assertEqual(desk.say(f"turn {LAST} 1"), "ok")
        self.assertEqual(desk.say(f"drop {LAST}"), "ok")
        self.assertEqual(desk.say("turn 0 1"), "ok")
        self.assertEqual(desk.say("drop 0"), "ok")

    def test_marks(self):
        for marks in ("", "190", "0 190", "1 0", "0 0", "0 1 1", "3 2 4", "189 188", "191", "1 x", "x", "1  2", "01", "-1"):
            self.refused_unchanged(f"turn 6 {marks}")
            # Ahead of the moment that has an entry.
            self.refused_unchanged(f"turn 5 {marks}")
        self.assertEqual(small_desk().say("turn 6 " + " ".join(map(str, range(190)))), "ok")

    def test_at_behind_others(self):
        for row in ("moves 3 at 5", "even 8 at 5", "step 8 0 at 5", "long 3 2 at 5", "long 4 2 at 5", "turn 6 0 at 5",
                    "drop 5 at 5", "drop 5 at 9"):
            self.refused_unchanged(row)


class TestRefusals(unittest.TestCase):
    def refused_so(self, row, error, **fields):
        desk = small_desk()
        with self.assertRaises(error) as caught:
            desk.say(row)
        self.assertIs(caught.exception.__class__, error)
        self.assertTrue(same(vars(caught.exception), fields))
        self.assertEqual((desk.say("homes"), desk.say("moves 1"), desk.say("homes at 4")), ("1", "5 1", "none"))

    def test_same_moment(self):
        self.refused_so("turn 5 0", SameMoment, moment=5)
        self.refused_so("turn 5 3 189", SameMoment, moment=5)

    def test_no_entry(self):
        for moment in (0, 4, 6, LAST):
            self.refused_so(f"drop {moment}", NoEntry, moment=moment)

    def test_no_book(self):
        for book in (2, 3, 10 ** 199):
            self.refused_so(f"nth {book} 0", NoBook, book=book)
            self.refused_so(f"count {book} 0", NoBook, book=book)
            self.refused_so(f"nth {book} 0 at 5", NoBook, book=book)
        self.refused_so("nth 1 0 at 4", NoBook, book=1)
        self.refused_so("count 1 9 at 4", NoBook, book=1)

    def test_bad_prime(self):
        for prime in (0, 1, 2, 4, 9, 91, 99, 101, 10 ** 199):
            self.refused_so(f"long {prime} 5", BadPrime, prime=prime)


if __name__ == "__main__":
    unittest.main()
