"""Texts: rows, settings and changes written as words, and read again."""

from cutwalks.checks import MOST_MARKS
from cutwalks.errors import InvalidText
from cutwalks.rows import Row
from cutwalks.words import read_count, read_number, read_numbers


def write_row(row):
    """The text of a row."""
    return " ".join([f"{row.length}:"] + mark_words(row.marks, row.strict))


def read_row(text):
    """The row with this text."""
    words = text.split(" ")
    length = read_count(words[0])
    if length is None or length < 1:
        raise InvalidText(0)
    marks, strict = read_marks(words, 1, length - 1)
    return Row(length, marks, strict)


def write_settings(settings):
    """The text of settings."""
    least, normal, greatest = settings
    return f"{least}-{normal}-{greatest}"


def read_settings(text):
    """The settings with this text."""
    words = text.split(" ")
    numbers = read_numbers(words[0], 3)
    if numbers is None or not 1 <= numbers[0] <= numbers[1] <= numbers[2]:
        raise InvalidText(0)
    if len(words) > 1:
        raise InvalidText(1)
    return tuple(numbers)


def write_change(change):
    """The text of a change."""
    begin, end, length, marks, strict = change
    return " ".join([f"{begin}-{end}", "by", f"{length}:"] + mark_words(marks, strict))


def read_change(text):
    """The change, of a row of any length, with this text."""
    words = text.split(" ")
    numbers = read_numbers(words[0], 2)
    if numbers is None or numbers[0] > numbers[1]:
        raise InvalidText(0)
    if words[1:2] != ["by"]:
        raise InvalidText(1)
    length = read_count(words[2]) if len(words) > 2 else None
    if length is None:
        raise InvalidText(2)
    marks, strict = read_marks(words, 3, length)
    return numbers[0], numbers[1], length, marks, strict


def mark_words(marks, strict):
    """The words of some marks."""
    firm = set(strict)
    return [f"{mark}!" if mark in firm else f"{mark}" for mark in marks]


def read_marks(words, begin, high):
    """Marks up to a place high, and the strict ones of them, from the words from the one with the number begin on."""
    marks = []
    strict = []
    low = 1
    for at in range(begin, len(words)):
        is_strict = words[at].endswith("!")
        mark = read_number(words[at][:-1] if is_strict else words[at])
        if mark is None or not low <= mark <= high or len(marks) == MOST_MARKS:
            raise InvalidText(at)
        marks.append(mark)
        if is_strict:
            strict.append(mark)
        low = mark + 1
    return marks, strict
