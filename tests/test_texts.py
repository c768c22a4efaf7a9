"""Point [16]: texts of rows, settings and changes, there and back, and where other strings are wrong."""

import re
import unittest
from random import Random

from cutwalks.errors import InvalidText
from cutwalks.rows import Row
from cutwalks.texts import read_change, read_row, read_settings, write_change, write_row, write_settings
from model import GREAT, small_rows, small_settings

NUMBER = "(0|[1-9][0-9]{0,29})"
DIGITS = "1234567890" * 3


def marks_stand(words, high):
    """Whether these words can be those of marks up to a place."""
    found = [re.fullmatch("([1-9][0-9]{0,29})!?", word) for word in words]
    if not all(found) or len(words) > 400:
        return False
    places = [int(match[1]) for match in found]
    return places == sorted(set(places)) and (not places or places[-1] <= high)


def row_stands(words):
    """Whether some row's text begins with these words."""
    match = re.fullmatch(NUMBER + ":", words[0])
    return bool(match) and int(match[1]) >= 1 and marks_stand(words[1:], int(match[1]) - 1)


def settings_stand(words):
    match = re.fullmatch("-".join([NUMBER] * 3), words[0])
    return bool(match) and len(words) == 1 and 1 <= int(match[1]) <= int(match[2]) <= int(match[3])


def change_stands(words):
    match = re.fullmatch(NUMBER + "-" + NUMBER, words[0])
    if not match or int(match[1]) > int(match[2]):
        return False
    if len(words) > 1 and words[1] != "by":
        return False
    if len(words) > 2:
        match = re.fullmatch(NUMBER + ":", words[2])
        return bool(match) and marks_stand(words[3:], int(match[1]))
    return True


# How to read and write each kind of value, what its texts can begin with, and how many words they have at least.
KINDS = [
    (read_row, write_row, row_stands, 1),
    (read_settings, write_settings, settings_stand, 1),
    (read_change, write_change, change_stands, 3),
]


def wrong_word(text, stands, fewest):
    """The number of the first word that cannot stand where it stands, None for the text of a value."""
    words = text.split(" ")
    for number in range(len(words)):
        if not stands(words[:number + 1]):
            return number
    return len(words) if len(words) < fewest else None


class TextsTest(unittest.TestCase):
    def check(self, kind, text):
        """That a string is read, or that the right word is told."""
        read, write, stands, fewest = kind
        place = wrong_word(text, stands, fewest)
        if place is None:
            self.assertEqual(write(read(text)), text)
            return
        with self.assertRaises(InvalidText, msg=repr(text)) as caught:
            read(text)
        self.assertEqual(caught.exception.place, place, repr(text))

    def wrong(self, read, text, place):
        with self.assertRaises(InvalidText, msg=repr(text)) as caught:
            read(text)
        self.assertIs(type(caught.exception.place), int)
        self.assertEqual(caught.exception.place, place, repr(text))

    def test_the_texts_of_the_document(self):
        row = Row(20, [3, 7, 8, 13], [3, 8])
        self.assertEqual(write_row(row), "20: 3! 7 8! 13")
        self.assertEqual(read_row("20: 3! 7 8! 13"), row)
        self.assertEqual(write_row(Row(20, [], [])), "20:")
        self.assertEqual(read_row("20:"), Row(20, [], []))
        self.assertEqual(write_settings((2, 4, 5)), "2-4-5")
        self.assertEqual(read_settings("2-4-5"), (2, 4, 5))
        self.assertEqual(write_change((4, 6, 3, [2, 3], [3])), "4-6 by 3: 2 3!")
        self.assertEqual(read_change("4-6 by 3: 2 3!"), (4, 6, 3, [2, 3], [3]))
        self.assertEqual(write_change((4, 6, 0, [], [])), "4-6 by 0:")
        self.assertEqual(read_change("4-6 by 0:"), (4, 6, 0, [], []))

    def test_all_small_values(self):
        for length, marks, strict in small_rows(6):
            row = Row(length, marks, strict)
            self.assertEqual(read_row(write_row(row)), row)
            self.check(KINDS[0], write_row(row))
            # Marks of a change may stand at the end of its cells.
            for begin, end in [(0, 0), (0, 1), (5, 17)]:
                change = (begin, end, length - 1, marks, strict)
                self.assertEqual(read_change(write_change(change)), change)
                self.check(KINDS[2], write_change(change))
        for settings in small_settings(12):
            self.assertEqual(read_settings(write_settings(settings)), settings)

    def test_kinds_of_results(self):
        self.assertIsInstance(read_row("5: 2"), Row)
        self.assertIs(type(read_settings("1-1-1")), tuple)
        change = read_change("4-6 by 3: 2! 3!")
        self.assertEqual([type(part) for part in change], [int, int, int, list, list])
        self.assertIsNot(change[3], change[4])
        change[3].clear()
        self.assertEqual(read_change("4-6 by 3: 2! 3!"), (4, 6, 3, [2, 3], [2, 3]))

    def test_all_strict_and_none(self):
        self.assertEqual(write_row(Row(9, [1, 8], [1, 8])), "9: 1! 8!")
        self.assertEqual(write_row(Row(9, [1, 8], [])), "9: 1 8")
        self.assertEqual(write_change((0, 0, 9, [1, 9], [1, 9])), "0-0 by 9: 1! 9!")
        self.assertEqual(write_change((0, 0, 9, [1, 9], [])), "0-0 by 9: 1 9")

    def test_thirty_digits_and_more(self):
        great = f"{GREAT}"
        self.assertEqual(len(great), 30)
        self.assertEqual(read_row(great + ": " + DIGITS + "!"), Row(GREAT, [int(DIGITS)], [int(DIGITS)]))
        self.assertEqual(write_row(Row(GREAT, [GREAT - 1], [])), f"{GREAT}: {GREAT - 1}")
        self.assertEqual(read_settings(f"1-{GREAT}-{GREAT}"), (1, GREAT, GREAT))
        self.assertEqual(read_change(f"0-{great} by {great}: {great}!"), (0, GREAT, GREAT, [GREAT], [GREAT]))
        self.assertEqual(write_change((GREAT, GREAT, GREAT, [GREAT], [])), f"{great}-{great} by {great}: {great}")
        more = "1" + "0" * 30
        for read, text, place in [
            (read_row, more + ":", 0), (read_row, f"{GREAT}: {more}", 1), (read_row, f"{more}: 3", 0),
            (read_settings, f"1-1-{more}", 0), (read_settings, f"{more}-{more}-{more}", 0),
            (read_change, f"0-{more} by 0:", 0), (read_change, f"0-0 by {more}:", 2), (read_change, f"0-0 by 9: {more}", 3),
            (read_row, "9" * 3000 + ":", 0),
        ]:
            self.wrong(read, text, place)

    def test_wrong_rows(self):
        for text, place in [
            ("", 0), (" ", 0), ("20", 0), (":", 0), ("0:", 0), ("00:", 0), ("020:", 0), ("+20:", 0), ("-20:", 0),
            ("20::", 0), ("20 :", 0), (" 20:", 0), ("20: ", 1), ("20:  3", 1), ("20: 3 ", 2), ("20: 3  7", 2),
            ("20:3", 0), ("20: 0", 1), ("20: 03", 1), ("20: +3", 1), ("20: -3", 1), ("20: 3!!", 1), ("20: !3", 1),
            ("20: !", 1), ("20: 3 !", 2), ("20: 20", 1), ("20: 19 20", 2), ("20: 21!", 1), ("20: 7 3", 2),
            ("20: 3 3", 2), ("20: 3! 3", 2), ("20: 3 x 2", 2), ("20: 3\n", 1), ("20:\n", 0), ("\n20:", 0), ("20:\n3", 0),
            ("1: 1", 1), ("2: 1 1", 2), ("2: 1 2", 2), ("20!: 3", 0), ("x", 0), ("20: 3, 7", 1), ("20: 3.0", 1), ("20: 1_0", 1),
            ("2_0:", 0), ("20: 3 7 8 20 13", 4), ("1e1:", 0),
        ]:
            self.wrong(read_row, text, place)
            self.check(KINDS[0], text)
        self.assertEqual(read_row("2: 1!"), Row(2, [1], [1]))
        self.assertEqual(read_row("20: 19"), Row(20, [19], []))

    def test_wrong_settings(self):
        for text, place in [
            ("", 0), (" ", 0), ("2-4", 0), ("2", 0), ("2-4-5-6", 0), ("2-4-5-", 0), ("-2-4-5", 0), ("2--4-5", 0), ("0-4-5", 0),
            ("2-4-3", 0), ("4-2-5", 0), ("02-4-5", 0), ("2-04-5", 0), ("+2-4-5", 0), ("2-4-5 ", 1), (" 2-4-5", 0), ("2-4-5 6", 1),
            ("2 4 5", 0), ("2-4-5\n", 0), ("a-b-c", 0), ("2-4-x", 0), ("--", 0), ("2-4-5  ", 1), ("2 -4-5", 0), ("0-0-0", 0),
            ("2-4-5:", 0), ("2-4-5!", 0), ("2_-4-5", 0),
        ]:
            self.wrong(read_settings, text, place)
            self.check(KINDS[1], text)

    def test_wrong_changes(self):
        for text, place in [
            ("", 0), ("4-6", 1), ("4-6 by", 2), ("4-6 ", 1), ("4-6 by ", 2), ("4-6  by 3:", 1), ("6-4 by 3:", 0), ("6-4", 0),
            ("4 by 3:", 0), ("4-6-7 by 3:", 0), ("-4-6 by 3:", 0), ("04-6 by 3:", 0), ("4-06 by 3:", 0), ("4-6 By 3:", 1),
            ("4-6 by 3", 2), ("4-6 by :", 2), ("4-6 by 03:", 2), ("4-6 by -3:", 2), ("4-6 by 3::", 2), ("4-6 by 3: ", 3),
            ("4-6 by 3: 0", 3), ("4-6 by 3: 4", 3), ("4-6 by 3: 2 2", 4), ("4-6 by 3: 3! 2", 4), ("4-6 by 3: 2! 3! 4!", 5),
            ("4-6 by 0: 1", 3), ("4-6 by 0: 0", 3), ("4-6 3: 2", 1), ("by 3: 2", 0), ("4-6 4-6 by 3:", 1), ("4-6 by by 3:", 2),
            ("4-6 by 3: by", 3), (" 4-6 by 3:", 0), ("4-6\nby 3:", 0), ("4-6 by\n3:", 1), ("4-6 by 3:\n", 2), ("4-6 by 3: 2\n", 3),
            ("4- by 3:", 0), ("-6 by 3:", 0), ("4-6 by 3:2", 2), ("00-0 by 0:", 0), ("4--6 by 3:", 0),
        ]:
            self.wrong(read_change, text, place)
            self.check(KINDS[2], text)
        self.assertEqual(read_change("0-0 by 0:"), (0, 0, 0, [], []))
        self.assertEqual(read_change("6-6 by 1: 1!"), (6, 6, 1, [1], [1]))

    def test_four_hundred_marks_and_more(self):
        marks = list(range(1, 401))
        words = " ".join(f"{mark}" for mark in marks)
        self.assertEqual(read_row("500: " + words), Row(500, marks, []))
        self.assertEqual(read_change("4-6 by 500: " + words), (4, 6, 500, marks, []))
        self.wrong(read_row, "500: " + words + " 401", 401)
        self.wrong(read_row, "500: " + words + " 401 x", 401)
        self.wrong(read_change, "4-6 by 500: " + words + " 401", 403)

    def test_texts_with_words_left_out_put_in_and_exchanged(self):
        random = Random(91)
        for _ in range(4000):
            kind = random.choice(KINDS)
            words = self.some_text(random, kind).split(" ")
            for _ in range(random.randint(0, 2)):
                self.spoil(random, words)
            self.check(kind, " ".join(words))

    def some_text(self, random, kind):
        if kind is KINDS[1]:
            return write_settings(tuple(sorted(random.randint(1, 99) for _ in range(3))))
        length = random.choice([1, 5, 20, 99])
        marks = sorted(random.sample(range(1, length), random.randint(0, min(length - 1, 6))))
        strict = [mark for mark in marks if random.random() < 0.5]
        if kind is KINDS[0]:
            return write_row(Row(length, marks, strict))
        begin = random.randint(0, 20)
        return write_change((begin, begin + random.randint(0, 20), length, marks, strict))

    def spoil(self, random, words):
        at = random.randrange(len(words) + 1)
        what = random.randint(0, 4)
        if what == 0:
            words[at:at + 1] = []
        elif what == 1:
            words.insert(at, random.choice(["", "by", "3", "3!", "20:", "4-6", "2-4-5", "0", "x", "!", ":", "-", "\n"]))
        elif what == 2 and at + 1 < len(words):
            words[at], words[at + 1] = words[at + 1], words[at]
        elif at < len(words):
            sign = random.randrange(len(words[at]) + 1)
            fresh = random.choice(["", "0", "1", "9", "!", ":", "-", "\n", " ", "+", "a"])
            words[at] = words[at][:sign] + fresh + words[at][sign + random.randint(0, 1):]
        if not words:
            words.append("")

    def test_all_short_strings(self):
        for kind in KINDS:
            for text in self.strings("01:! -", 4):
                self.check(kind, text)

    def strings(self, signs, longest):
        found = [""]
        for _ in range(longest):
            found = [""] + [text + sign for text in found for sign in signs]
        return sorted(set(found))

    def test_arguments_by_name_and_unchanged(self):
        row = Row(20, [3], [3])
        change = (4, 6, 3, [2], [])
        self.assertEqual(write_row(row=row), "20: 3!")
        self.assertEqual(read_row(text="20: 3!"), row)
        self.assertEqual(write_settings(settings=(2, 4, 5)), "2-4-5")
        self.assertEqual(read_settings(text="2-4-5"), (2, 4, 5))
        self.assertEqual(write_change(change=change), "4-6 by 3: 2")
        self.assertEqual(read_change(text="4-6 by 3: 2"), change)
        self.assertEqual(change, (4, 6, 3, [2], []))


if __name__ == "__main__":
    unittest.main()
