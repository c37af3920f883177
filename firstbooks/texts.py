"""Texts: towns and papers written as rows, and read again."""

from firstbooks.errors import Unread
from firstbooks.helper import bar_in, moment_in, number_in
from firstbooks.marks import marks
from firstbooks.papers import shows_why
from firstbooks.town import Town


def show_town(town):
    """Write a town: a row for each entry, rising."""
    return "\n".join([f"{moment} turns {_marks_text(bar)}" for moment, bar in town.entries()])


def read_town(text):
    """Read the town that a thing of any kind writes, its rows in any order."""
    entries = [_read_entry(row) for row in _rows(text)] if text != "" else []
    town = Town()
    for moment, bar in entries:
        town.turn(moment, bar)
    return town


def show_why(number, paper):
    """Write a number's paper, whether it is so or not."""
    book, rows = paper
    told = [f"{number} in book {book}"]
    told.extend([f"book {lesser} by {_marks_text(bar)}" for lesser, bar in rows])
    return "\n".join(told)


def read_why(text):
    """Read the number and its paper that a thing of any kind writes, whether it is so or not."""
    rows = _rows(text)
    number, book = _read_head(rows[0])
    found = []
    for lesser, row in enumerate(rows[1:]):
        if lesser >= book:
            raise Unread(row)
        found.append((lesser, _read_lesser(row, lesser)))
    if len(found) < book:
        raise Unread("")
    return number, (book, found)


def shows_text(house, text):
    """Tell whether a thing of any kind writes a true paper of a number in a house."""
    try:
        number, paper = read_why(text)
    except Unread:
        return False
    return shows_why(house, number, paper)


def _marks_text(bar):
    """Write the marks of a bar."""
    return " ".join([str(mark) for mark in marks(bar)])


def _rows(text):
    """Tell the rows of a text, refused where a thing is none."""
    if not isinstance(text, str):
        raise Unread(text)
    return text.split("\n")


def _read_entry(row):
    """Read a moment and its bar."""
    words = row.split(" ")
    moment = moment_in(words[0])
    bar = bar_in(words[2:])
    if moment is None or words[1:2] != ["turns"] or bar is None:
        raise Unread(row)
    return moment, bar


def _read_head(row):
    """Read a number and its book."""
    words = row.split(" ")
    if len(words) != 4 or words[1:3] != ["in", "book"]:
        raise Unread(row)
    number = number_in(words[0])
    book = number_in(words[3])
    if number is None or book is None:
        raise Unread(row)
    return number, book


def _read_lesser(row, lesser):
    """Read the bar that leads to a lesser book."""
    words = row.split(" ")
    bar = bar_in(words[3:])
    if words[:3] != ["book", str(lesser), "by"] or bar is None:
        raise Unread(row)
    return bar
