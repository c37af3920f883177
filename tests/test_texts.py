import random
import re
import unittest

from helper import (
    ANYTHINGS, crowded, far_bars, far_numbers, refused, same, some_houses, with_tuples,
)

from firstbooks.errors import SameMoment, Unread
from firstbooks.house import House
from firstbooks.papers import shows_why, why
from firstbooks.texts import read_town, read_why, show_town, show_why, shows_text
from firstbooks.town import Town

LAST = 10 ** 12
NUMBER = "(0|[1-9][0-9]{0,199})"
MARKS = "((?: [0-9]+)+)"

NO_TEXTS = [thing for thing in ANYTHINGS if not isinstance(thing, str)] + [["5 turns 1"], ("5 in book 0",), b""]

# Words that stand nowhere for a number.
NO_NUMBERS = [
    "", "00", "01", "007", "-1", "+1", "1.0", "1_0", "0x1", "1e3", "x", "a1", "1a", "1" + 200 * "0", 5000 * "9",
    "\t1", "1\t", "one", "\u0661", "\u00b2",
]


def bar_of(text):
    """Tell the bar whose marks stand in a text, each behind a blank, None where it is none."""
    places = text.split(" ")[1:]
    if any(not re.fullmatch(NUMBER, place, re.ASCII) for place in places):
        return None
    places = [int(place) for place in places]
    if places != sorted(set(places)) or places[-1] > 189:
        return None
    return sum(2 ** place for place in places)


def entry_of(row):
    """Tell the entry that a row writes, None where it writes none, by [33] alone."""
    found = re.fullmatch(NUMBER + " turns" + MARKS, row)
    if found is None or int(found[1]) > LAST or bar_of(found[2]) is None:
        return None
    return int(found[1]), bar_of(found[2])


def entries_of(text):
    """Tell the entries of a text, or the refusal and its field."""
    rows = text.split("\n") if text else []
    entries = [entry_of(row) for row in rows]
    if None in entries:
        return Unread, "row", rows[entries.index(None)]
    seen = []
    for moment, _ in entries:
        if moment in seen:
            return SameMoment, "moment", moment
        seen.append(moment)
    return sorted(entries)


def paper_of(text):
    """Tell the number and the paper that a text writes, or the refusal and its field, by [34] alone."""
    rows = text.split("\n")
    head = re.fullmatch(NUMBER + " in book " + NUMBER, rows[0])
    if head is None:
        return Unread, "row", rows[0]
    number, book = int(head[1]), int(head[2])
    told = []
    for lesser, row in enumerate(rows[1:]):
        found = re.fullmatch(f"book {lesser} by" + MARKS, row)
        if lesser >= book or found is None or bar_of(found[1]) is None:
            return Unread, "row", row
        told.append((lesser, bar_of(found[1])))
    return (number, (book, told)) if len(told) == book else (Unread, "row", "")


def read_or_refused(read, text):
    """Tell what is read of a text, or the refusal's class with its field."""
    try:
        return read(text)
    except (Unread, SameMoment) as why_not:
        (field, thing), = vars(why_not).items()
        return why_not.__class__, field, thing


def bent(text, pick):
    """Tell a text with some signs of it otherwise."""
    signs = list(text)
    for _ in range(pick.choice([1, 1, 1, 2, 3])):
        place = pick.randrange(len(signs) + 1)
        sign = pick.choice(["0", "1", "9", " ", "\n", "\t", "t", "b", "-"])
        ways = [signs[:place] + [sign] + signs[place:], signs[:place] + signs[place + 1:],
                signs[:place] + [sign] + signs[place + 1:]]
        signs = pick.choice(ways)
    return "".join(signs)


def town_of(entries):
    town = Town()
    for moment, bar in entries:
        town.turn(moment, bar)
    return town


def some_entries():
    """Tell rising entries of towns: none, few, and two hundred with far bars."""
    pick = random.Random(2)
    told = [[], [(0, 1)], [(LAST, 2 ** 190 - 1)], [(3, 6), (4, 6), (10, 2 ** 189)], [(9, 5), (10, 5), (11, 5), (100, 5)]]
    for many in (5, 12, 200):
        moments = sorted(pick.sample(range(LAST + 1), many))
        told.append(list(zip(moments, far_bars(many, many))))
    return told


class TestShowTown(unittest.TestCase):
    def test_row_by_row(self):
        for entries in some_entries():
            town = town_of(entries[::-1])
            rows = []
            for moment, bar in entries:
                marks = [place for place in range(190) if bar // 2 ** place % 2]
                rows.append(" ".join([str(moment), "turns"] + [str(mark) for mark in marks]))
            self.assertTrue(same(show_town(town), "\n".join(rows)))
            self.assertEqual(town.entries(), entries)

    def test_as_the_document_writes_it(self):
        self.assertEqual(show_town(town_of([(12, 11), (3, 2 ** 189 + 1)])), "3 turns 0 189\n12 turns 0 1 3")
        self.assertEqual(show_town(Town()), "")
        self.assertEqual(show_town(town=town_of([(0, 1)])), "0 turns 0")

    def test_behind_what_was_dropped(self):
        town = town_of([(5, 1), (7, 2), (6, 3)])
        town.drop(6)
        self.assertEqual(show_town(town), "5 turns 0\n7 turns 1")


class TestReadTown(unittest.TestCase):
    def check(self, text):
        wanted = entries_of(text)
        told = read_or_refused(read_town, text)
        if isinstance(told, Town):
            told = told.entries()
        self.assertTrue(same(told, wanted), (text, told, wanted))
        return isinstance(wanted, list)

    def test_what_was_shown(self):
        for entries in some_entries():
            town = town_of(entries)
            told = read_town(show_town(town))
            self.assertIsInstance(told, Town)
            self.assertTrue(same(told.entries(), entries))
            self.assertEqual(told.house(), town.house())
            self.assertEqual(told.moves(77), town.moves(77))
            told.turn(1, 1) if all(moment != 1 for moment, _ in entries) else None
            self.assertEqual(town.entries(), entries)

    def test_rows_in_any_order(self):
        pick = random.Random(1)
        for entries in some_entries():
            rows = show_town(town_of(entries)).split("\n") if entries else []
            for _ in range(4):
                pick.shuffle(rows)
                self.assertTrue(same(read_town("\n".join(rows)).entries(), entries))

    def test_the_empty_text(self):
        told = read_town("")
        self.assertIsInstance(told, Town)
        self.assertEqual((len(told), told.entries()), (0, []))
        told.turn(3, 1)
        self.assertEqual(len(read_town("")), 0)

    def test_moments(self):
        for word in NO_NUMBERS + [str(LAST + 1), str(10 ** 199), str(10 ** 200), "1000000000000 "]:
            row = word + " turns 1"
            refused(self, Unread, lambda: read_town(row), row=row)
            self.assertFalse(self.check("3 turns 0\n" + row + "\n-1 turns 0"))
        for moment in (0, 1, 9, 10, LAST - 1, LAST):
            self.assertEqual(read_town(f"{moment} turns 1").entries(), [(moment, 2)])

    def test_bars(self):
        for word in NO_NUMBERS + ["190", "191", "1000", str(10 ** 199), str(10 ** 200)]:
            for row in ("5 turns " + word, "5 turns 0 " + word, "5 turns " + word + " 189"):
                refused(self, Unread, lambda: read_town(row), row=row)
        for row in ("5 turns", "5 turns ", "5", "5 ", "5 turns 1 0", "5 turns 3 3", "5 turns 0 1 1", "5 turns 2 1 3",
                    "5 turns 0 189 188", "5 turns 189 190", "5 turns 0 0"):
            refused(self, Unread, lambda: read_town(row), row=row)
        self.assertEqual(read_town("5 turns 0 188 189").entries(), [(5, 1 + 2 ** 188 + 2 ** 189)])
        self.assertEqual(read_town("5 turns " + " ".join(map(str, range(190)))).entries(), [(5, 2 ** 190 - 1)])

    def test_blanks_and_words(self):
        for row in (" 5 turns 1", "5 turns 1 ", "5  turns 1", "5 turns  1", "5 turns 1  2", "5\tturns 1", "5 turns\t1",
                    "\t5 turns 1", "5 turns 1\t", "5 turn 1", "5 Turns 1", "turns 5 1", "5 1", "5 turns turns 1",
                    "5 turns 1,2", " ", "\t", "turns", "5 turns one", "5turns 1", "5 turns1"):
            for text in (row, "3 turns 1\n" + row, row + "\n3 turns 1", "3 turns 1\n" + row + "\n4 turns x"):
                refused_row = read_or_refused(read_town, text)
                self.assertEqual(refused_row, (Unread, "row", row))

    def test_empty_rows(self):
        for text in ("\n", "\n5 turns 1", "5 turns 1\n", "5 turns 1\n\n6 turns 1", "\n\n", "5 turns 1\n\n"):
            self.assertEqual(read_or_refused(read_town, text), (Unread, "row", ""))

    def test_the_first_row_that_cannot_be_read(self):
        text = "5 turns 1\n6 turns 190\n7 turns\n5 turns 1"
        self.assertEqual(read_or_refused(read_town, text), (Unread, "row", "6 turns 190"))

    def test_the_same_moment(self):
        for text, moment in (
            ("5 turns 1\n5 turns 1", 5), ("5 turns 1\n6 turns 1\n5 turns 2\n6 turns 1", 5),
            ("5 turns 1\n6 turns 1\n6 turns 2\n5 turns 1", 6), ("0 turns 1\n0 turns 2\n0 turns 3", 0),
            (f"{LAST} turns 1\n3 turns 1\n{LAST} turns 1", LAST),
        ):
            with self.assertRaises(LookupError) as caught:
                read_town(text)
            self.assertIs(caught.exception.__class__, SameMoment)
            self.assertTrue(same(caught.exception.moment, moment))
            # Only where every row can be read.
            for row in ("x", "", "7 turns 190"):
                self.assertEqual(read_or_refused(read_town, text + "\n" + row), (Unread, "row", row))
                self.assertEqual(read_or_refused(read_town, row + "\n" + text), (Unread, "row", row))

    def test_bent_texts(self):
        pick = random.Random(9)
        good = 0
        for entries in some_entries()[1:7]:
            text = show_town(town_of(entries))
            for _ in range(700):
                good += self.check(bent(text, pick))
        self.assertGreater(good, 200)

    def test_things_that_are_no_texts(self):
        for thing in NO_TEXTS:
            refused(self, Unread, lambda: read_town(thing), row=thing)

    def test_by_name(self):
        self.assertEqual(read_town(text="5 turns 1").entries(), [(5, 2)])


def some_papers():
    """Tell houses with numbers and their told papers."""
    told = []
    for bars in some_houses()[::9] + [[], crowded([0, 1, 2]), crowded([0, 64, 189]), far_bars(3, 200)]:
        house = House(bars)
        for number in [0, 1, 5, 7, 13, 63] + far_numbers(4, 3):
            told.append((house, number, why(house, number)))
    house = House(crowded([0, 1, 2, 3, 4, 5, 6]))
    return told + [(house, 10 ** 200 - 1, why(house, 10 ** 200 - 1)), (house, 127, why(house, 127))]


class TestShowWhy(unittest.TestCase):
    def test_told_papers(self):
        for _, number, paper in some_papers():
            book, rows = paper
            wanted = [f"{number} in book {book}"]
            for lesser, bar in rows:
                marks = [str(place) for place in range(190) if bar // 2 ** place % 2]
                wanted.append(" ".join(["book", str(lesser), "by"] + marks))
            self.assertTrue(same(show_why(number, paper), "\n".join(wanted)))
            self.assertEqual(show_why(number, with_tuples(paper)), "\n".join(wanted))

    def test_papers_that_are_not_so(self):
        self.assertEqual(show_why(5, (0, [])), "5 in book 0")
        self.assertEqual(show_why(0, (2, [(0, 1), (1, 11)])), "0 in book 2\nbook 0 by 0\nbook 1 by 0 1 3")
        self.assertEqual(show_why(10 ** 199, (10 ** 199, [])), f"{10 ** 199} in book {10 ** 199}")
        self.assertEqual(show_why(4, (1, [(0, 2 ** 189)])), "4 in book 1\nbook 0 by 189")
        self.assertEqual(show_why(4, (3, [(7, 4), (2, 5)])), "4 in book 3\nbook 7 by 2\nbook 2 by 0 2")

    def test_nothing_is_changed(self):
        paper = (1, [(0, 3)])
        self.assertEqual(show_why(number=3, paper=paper), "3 in book 1\nbook 0 by 0 1")
        self.assertEqual(paper, (1, [(0, 3)]))


class TestReadWhy(unittest.TestCase):
    def check(self, text):
        wanted = paper_of(text)
        told = read_or_refused(read_why, text)
        self.assertTrue(same(told, wanted), (text, told, wanted))
        return wanted[0] is not Unread

    def test_what_was_shown(self):
        for _, number, paper in some_papers():
            self.assertTrue(same(read_why(show_why(number, paper)), (number, paper)))

    def test_whether_it_is_so_is_not_asked(self):
        self.assertTrue(same(read_why("0 in book 1\nbook 0 by 189"), (0, (1, [(0, 2 ** 189)]))))
        self.assertTrue(same(read_why("9 in book 2\nbook 0 by 0 1\nbook 1 by 0 1"), (9, (2, [(0, 3), (1, 3)]))))
        text = f"{10 ** 200 - 1} in book 0"
        self.assertTrue(same(read_why(text), (10 ** 200 - 1, (0, []))))

    def test_rows_that_cannot_stand_there(self):
        head = "5 in book 2\n"
        for text, row in (
            (head + "book 1 by 0\nbook 0 by 1", "book 1 by 0"), (head + "book 0 by 0\nbook 0 by 1", "book 0 by 1"),
            (head + "book 0 by 0\nbook 2 by 1", "book 2 by 1"), (head + "book 0 by 0\nbook 01 by 1", "book 01 by 1"),
            (head + "book 0 by 190\nbook 1 by 1", "book 0 by 190"), (head + "book 0 by 1 0\nx", "book 0 by 1 0"),
            (head + "book 0 by\nbook 1 by 1", "book 0 by"), (head + "book 0 by \nbook 1 by 1", "book 0 by "),
            (head + "book 0 by 0", ""), ("5 in book 2", ""), (head, ""), (head + "book 0 by 0\n", ""),
            (head + "book 0 by 0\nbook 1 by 1\n", ""), (head + "book 0 by 0\nbook 1 by 1\nbook 2 by 1", "book 2 by 1"),
            ("5 in book 0\nbook 0 by 1", "book 0 by 1"), ("5 in book 0\n", ""), ("", ""), ("\n5 in book 0", ""),
            ("5 in book 1\nBook 0 by 1", "Book 0 by 1"), ("5 in book 1\nbook 0  by 1", "book 0  by 1"),
            ("5 in book 1\nbook 0 by 1 1", "book 0 by 1 1"), ("5 in book 1\n book 0 by 1", " book 0 by 1"),
            ("5 in book 1\nbook 0 by 1 ", "book 0 by 1 "), ("5 in book 1\nbook\t0 by 1", "book\t0 by 1"),
            ("5 in book 1\nbook 0 with 1", "book 0 with 1"), ("5 in book 1\nbook 0", "book 0"),
            ("5 in book 1\nbook 0 by 1\n5 in book 0", "5 in book 0"), ("5 in book 1\nbook 0 by x", "book 0 by x"),
            (f"5 in book {10 ** 199}\nbook 0 by 1\nbook 1 by 2", ""), (f"5 in book {10 ** 199}\nx", "x"),
        ):
            self.assertEqual(read_or_refused(read_why, text), (Unread, "row", row), text)
            self.assertFalse(self.check(text))

    def test_heads(self):
        for word in NO_NUMBERS + [str(10 ** 200)]:
            for row in (word + " in book 0", "5 in book " + word, word + " in book 1"):
                for text in (row, row + "\nbook 0 by 1", row + "\nx"):
                    self.assertEqual(read_or_refused(read_why, text), (Unread, "row", row))
        for row in ("5 in book", "5 in book ", "5 in book 0 ", " 5 in book 0", "5  in book 0", "5 in\tbook 0", "5", "in book",
                    "5 in Book 0", "5 is book 0", "5 in book 0 0", "5 book 0", "book 0 by 1", "5 in book 0 by 1"):
            refused(self, Unread, lambda: read_why(row), row=row)

    def test_numbers_of_two_hundred_figures(self):
        self.assertTrue(self.check("9" * 200 + " in book 0"))
        self.assertFalse(self.check("9" * 201 + " in book 0"))
        self.assertTrue(self.check("0 in book 0"))
        self.assertFalse(self.check("5 in book " + "9" * 200))

    def test_bent_texts(self):
        pick = random.Random(4)
        good = 0
        for _, number, paper in some_papers()[::3]:
            text = show_why(number, paper)
            for _ in range(150):
                good += self.check(bent(text, pick))
        self.assertGreater(good, 200)

    def test_things_that_are_no_texts(self):
        for thing in NO_TEXTS:
            refused(self, Unread, lambda: read_why(thing), row=thing)

    def test_by_name(self):
        self.assertEqual(read_why(text="5 in book 0"), (5, (0, [])))


class TestShowsText(unittest.TestCase):
    def test_true_papers(self):
        for house, number, paper in some_papers():
            bars = house.bars()
            self.assertIs(shows_text(house, show_why(number, paper)), True)
            self.assertEqual(house.bars(), bars)

    def test_one_thing_otherwise(self):
        true = 0
        for house, number, paper in some_papers()[::5]:
            book, rows = paper
            for other in (number + 1, number ^ 4, 0):
                self.assertIs(shows_text(house, show_why(other, paper)), shows_why(house, other, paper))
            for place, (lesser, bar) in enumerate(rows[:8]):
                for one in house.bars()[:20] + [bar ^ 1, bar + 1, 2 ** 189, 1]:
                    if one:
                        bent_rows = rows[:place] + [(lesser, one)] + rows[place + 1:]
                        told = shows_text(house, show_why(number, (book, bent_rows)))
                        self.assertIs(told, shows_why(house, number, (book, bent_rows)))
                        true += told and one != bar
            for less in range(book):
                self.assertIs(shows_text(house, show_why(number, (less, rows[:less]))), False)
            self.assertIs(shows_text(house, show_why(number, (book + 1, rows + [(book, 1)]))), False)
        # Another bar may lead to the same book.
        self.assertGreater(true, 3)

    def test_bent_texts(self):
        pick = random.Random(5)
        for house, number, paper in some_papers()[::4]:
            text = show_why(number, paper)
            for _ in range(60):
                other = bent(text, pick)
                read = paper_of(other)
                wanted = read[0] is not Unread and shows_why(house, *read)
                self.assertIs(shows_text(house, other), wanted)

    def test_texts_of_no_paper_and_things_of_any_kind(self):
        for house in (House(), House([1]), House([1, 2, 3])):
            for thing in ANYTHINGS + ["", "\n", "5", "5 in book", "5 turns 1", "book 0 by 0", "0 in book 1", b"0 in book 0",
                                      ["0 in book 0"], (0, (0, [])), "0 in book 00", "00 in book 0", "0 in book 0\n"]:
                self.assertIs(shows_text(house, thing), False)
            self.assertIs(shows_text(house, "0 in book 0"), True)
        self.assertIs(shows_text(House([1]), "1 in book 1\nbook 0 by 0"), True)
        self.assertIs(shows_text(House([1]), "1 in book 0"), False)
        self.assertIs(shows_text(house=House([3]), text="2 in book 1\nbook 0 by 0 1"), True)

    def test_the_house_is_asked_as_it_is_now(self):
        house = House([1])
        text = "1 in book 1\nbook 0 by 0"
        self.assertIs(shows_text(house, text), True)
        house.take(1)
        self.assertIs(shows_text(house, text), False)
        self.assertIs(shows_text(house, "1 in book 0"), True)


if __name__ == "__main__":
    unittest.main()
