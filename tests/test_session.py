"""Point [17]: lines and their answers."""

import re
import unittest
from random import Random

from cutwalks.changes import effect, latest_rejoin, rejoin
from cutwalks.errors import CutError
from cutwalks.meetings import entries, sure_cut
from cutwalks.session import session
from cutwalks.starts import basin
from cutwalks.texts import read_change, read_row, read_settings, write_change, write_row, write_settings
from cutwalks.walks import walk
from model import GREAT, mixed_rows

ROW = "row 20: 3! 7 8! 13"
SETTINGS = "settings 2-4-5"
NUMBER = "(0|[1-9][0-9]{0,29})"


def answers(*lines):
    return session("\n".join(lines)).split("\n")


class Model:
    """The answers, line by line, by the calls that the lines stand for."""

    def __init__(self):
        self.row = self.settings = None
        self.rows = []

    def answer(self, line):
        words = line.split(" ")
        if not all(words):
            return "?"
        if words[0] in ("row", "settings") and len(words) > 1:
            return self.try_call(lambda: self.take(words[0], " ".join(words[1:])))
        if self.row is None or self.settings is None:
            return "?"
        if words[0] in ("rejoin", "effect", "change") and len(words) > 1:
            return self.try_call(lambda: self.ask_change(words[0], " ".join(words[1:])))
        many = {"walk": 1, "sure": 1, "entries": 1, "basin": 1, "worst": 3, "back": 0}.get(words[0])
        if many != len(words) - 1 or not all(re.fullmatch(NUMBER, word) for word in words[1:]):
            return "?"
        if words[0] == "back":
            if not self.rows:
                return "NothingToUndo"
            self.row = self.rows.pop()
            return "ok"
        return self.try_call(lambda: self.ask(words[0], [int(word) for word in words[1:]]))

    def try_call(self, call):
        try:
            return call()
        except CutError as error:
            return error.__class__.__name__

    def take(self, word, text):
        if word == "row":
            self.row, self.rows = read_row(text), []
        else:
            self.settings = read_settings(text)
        return "ok"

    def ask_change(self, word, text):
        change = read_change(text)
        if word == "rejoin":
            return str(rejoin(self.row, self.settings, change))
        if word == "effect":
            kept, lost, new = effect(self.row, self.settings, change)
            return str(kept) + " " + str(lost) + " " + str(new)
        row = self.row.changed(change)
        self.rows.append(self.row)
        self.row = row
        return "ok"

    def ask(self, word, numbers):
        if word == "worst":
            return str(latest_rejoin(self.row, self.settings, *numbers))
        if word == "sure":
            return str(sure_cut(self.row, self.settings, *numbers))
        if word == "walk":
            return " ".join(str(cut) for cut in walk(self.row, self.settings, *numbers))
        ranges = {"entries": entries, "basin": basin}[word](self.row, self.settings, *numbers)
        return " ".join(str(low) if low == high else str(low) + "-" + str(high) for low, high in ranges) or "-"


class SessionTest(unittest.TestCase):
    def test_the_example(self):
        told = answers(
            ROW, SETTINGS, "walk 0", "walk 4", "walk 20", "sure 4", "entries 4", "basin 8", "basin 3", "basin 20",
            "effect 4-6 by 3: 2", "rejoin 4-6 by 3: 2", "worst 4 6 3", "change 4-6 by 3: 2", "walk 0", "back", "walk 0")
        self.assertEqual(told, [
            "ok", "ok", "0 3 7 12 17 20", "4 8 13 18 20", "20", "20", "4-7", "4-6 8", "0-1 3", "0-20", "4 1 1", "7", "20", "ok",
            "0 3 8 13 18 21", "ok", "0 3 7 12 17 20"])

    def test_lines_before_there_are_a_row_and_settings(self):
        asked = ["walk 0", "sure 0", "entries 0", "basin 0", "rejoin 0-0 by 0:", "effect 0-0 by 0:", "worst 0 0 0",
                 "change 0-0 by 0:", "back", "rejoin x", "walk x", "back x", "other"]
        self.assertEqual(answers(*asked), ["?"] * len(asked))
        self.assertEqual(answers(ROW, *asked), ["ok"] + ["?"] * len(asked))
        self.assertEqual(answers(SETTINGS, *asked), ["ok"] + ["?"] * len(asked))
        told = answers(SETTINGS, ROW, *asked)
        self.assertEqual(told[2:], [
            "0 3 7 12 17 20", "7", "0-3", "0", "0", "5 0 0", "0", "ok", "ok", "InvalidText", "?", "?", "?"])

    def test_settings_and_rows_that_cannot_be_read_change_nothing(self):
        told = answers("row 20", "settings 2-4", ROW, "walk 0", SETTINGS, "row 0:", "walk 0", "settings 4-2-5", "walk 0")
        self.assertEqual(told, ["InvalidText", "InvalidText", "ok", "?", "ok", "InvalidText", "0 3 7 12 17 20",
                                "InvalidText", "0 3 7 12 17 20"])

    def test_new_rows_and_settings_hold_for_the_lines_that_follow(self):
        told = answers(ROW, SETTINGS, "settings 3-3-3", "walk 0", "row 4:", "walk 0", SETTINGS, "walk 0")
        self.assertEqual(told, ["ok", "ok", "ok", "0 3 6 9 12 15 18 20",
                                "ok", "0 3 4", "ok", "0 4"])

    def test_numbers(self):
        for word in ["walk", "sure", "entries", "basin"]:
            for number in ["x", "-1", "+1", "01", "00", "1.0", "1_0", "0x1", "1" + "0" * 30, "1!", "1:", "1-2", "four"]:
                self.assertEqual(answers(ROW, SETTINGS, f"{word} {number}")[2], "?", number)
            self.assertEqual(answers(ROW, SETTINGS, word)[2], "?")
            self.assertEqual(answers(ROW, SETTINGS, word + " 4 5")[2], "?")
            self.assertEqual(answers(ROW, SETTINGS, f"{word} {GREAT}")[2], "InvalidPlace")
            self.assertEqual(answers(ROW, SETTINGS, word + " 21")[2], "InvalidPlace")
        for word in ["sure", "entries"]:
            self.assertEqual(answers(ROW, SETTINGS, word + " 20")[2], "InvalidPlace")
            self.assertNotIn(answers(ROW, SETTINGS, word + " 19")[2], ["InvalidPlace", "?"])
        for words in ["4 6", "4 6 3 2", "4 6 x", "x 6 3", "4 06 3", "4 6 -3", "4", ""]:
            self.assertEqual(answers(ROW, SETTINGS, "worst " + words)[2], "?")
        self.assertEqual(answers(ROW, SETTINGS, "worst")[2], "?")
        for words in ["6 4 3", "4 21 3", "0 20 0"]:
            self.assertEqual(answers(ROW, SETTINGS, "worst " + words)[2], "InvalidChange")
        self.assertEqual(answers(ROW, SETTINGS, f"worst 0 20 {GREAT}")[2], "TooLarge")
        self.assertEqual(answers(ROW, SETTINGS, "worst 0 20 400", "worst 0 20 401")[2:], ["20", "TooLarge"])

    def test_changes_that_cannot_be_read_or_made(self):
        for word in ["rejoin", "effect", "change"]:
            self.assertEqual(answers(ROW, SETTINGS, word)[2], "?")
            for text in ["x", "4-6", "4-6 by", "4-6 by 3", "6-4 by 3:", "4-6 by 3: 4", "4 6 3", "4-6 by 3: 2 x"]:
                self.assertEqual(answers(ROW, SETTINGS, f"{word} {text}")[2], "InvalidText", text)
            for text in ["4-21 by 3:", "0-20 by 0:", "20-20 by 3: 3"]:
                self.assertEqual(answers(ROW, SETTINGS, f"{word} {text}")[2], "InvalidChange", text)
        self.assertEqual(answers(ROW, SETTINGS, "rejoin 0-0 by 381:", "effect 0-0 by 381:")[2:], ["TooLarge"] * 2)
        # Changes of a row have no settings, so a row may become too long for them.
        told = answers(ROW, SETTINGS, "change 0-0 by 381:", "walk 0", "sure 0", "entries 0", "basin 0", "worst 0 0 0",
                       "effect 0-0 by 0:", "back", "walk 17")
        self.assertEqual(told[2:], ["ok"] + ["TooLarge"] * 6 + ["ok", "17 20"])

    def test_too_many_marks(self):
        marks = " ".join(str(mark) for mark in range(1, 401))
        told = answers("row 500: " + marks, "settings 9-9-9", "change 450-450 by 5: 2", "walk 400", "change 450-450 by 5:", "back")
        self.assertEqual(told, ["ok", "ok", "InvalidRow", "400 409 418 427 436 445 454 463 472 481 490 499 500", "ok", "ok"])
        self.assertEqual(answers("row 500: " + marks, "settings 9-9-9", "change 450-450 by 5: 2", "back")[2:],
                         ["InvalidRow", "NothingToUndo"])
        self.assertEqual(answers("row 500: " + marks + " 401"), ["InvalidText"])

    def test_change_and_back(self):
        told = answers(ROW, SETTINGS, "back", "change 0-3 by 0:", "change 0-0 by 4: 4", "walk 0", "back", "walk 0", "back",
                       "walk 0", "back", "walk 0")
        self.assertEqual(told[2:], ["NothingToUndo", "ok", "ok", "0 4 8 13 18 21", "ok", "0 4 9 14 17", "ok",
                                    "0 3 7 12 17 20", "NothingToUndo", "0 3 7 12 17 20"])

    def test_a_row_line_forgets_the_changes(self):
        told = answers(ROW, SETTINGS, "change 0-3 by 0:", ROW, "back", "change 0-3 by 0:", "row 7:", "back", "walk 0")
        self.assertEqual(told[2:], ["ok", "ok", "NothingToUndo", "ok", "ok", "NothingToUndo", "0 5 7"])
        # A settings line does not, and neither does a row line that cannot be read.
        told = answers(ROW, SETTINGS, "change 0-3 by 0:", "settings 2-2-2", "row 7", "back", "walk 0")
        self.assertEqual(told[2:], ["ok", "ok", "InvalidText", "ok", "0 2 4 6 8 10 12 14 16 18 20"])

    def test_changes_that_do_not_hold_are_not_taken_back(self):
        told = answers(ROW, SETTINGS, "change 0-3 by 0:", "change 0-99 by 0:", "change x", "back", "back", "walk 0")
        self.assertEqual(told[2:], ["ok", "InvalidChange", "InvalidText", "ok", "NothingToUndo", "0 3 7 12 17 20"])

    def test_empty_words(self):
        self.assertEqual(session(""), "?")
        self.assertEqual(session("\n"), "?\n?")
        self.assertEqual(session("\n\n" + ROW), "?\n?\nok")
        for line in ["", " ", "  ", " walk 0", "walk 0 ", "walk  0", "walk ", " back", "back ", "row ", "row 20: ", "row  20:",
                     " row 20:", "row 20:  3", "settings ", "settings  2-4-5", "settings 2-4-5 ", "rejoin ", "rejoin x ",
                     "effect 4-6  by 3:", "worst 4  6 3", "change  4-6 by 3:", "other  words", "change 4-6 by 3: "]:
            self.assertEqual(answers(ROW, SETTINGS, line)[2], "?", repr(line))
            self.assertEqual(answers(line)[0], "?", repr(line))
        # A wrong line leaves all.
        self.assertEqual(answers(ROW, SETTINGS, "row 7: ", "settings 1-1-1 ", "walk 0")[2:], ["?", "?", "0 3 7 12 17 20"])

    def test_other_lines(self):
        for line in ["Row 20:", "rows 20:", "walks 0", "Walk 0", "row", "settings", "?", "ok", "x", "back 1", "back back", "0 walk",
                     "walk0", "row20:", "undo", "#", "worst 4-6 3", "entries 4-7", "best 4 6 3"]:
            self.assertEqual(answers(ROW, SETTINGS, line)[2], "?", repr(line))
        self.assertEqual(answers("row x", "settings x y"), ["InvalidText", "InvalidText"])

    def test_one_answer_for_each_line(self):
        lines = [ROW, SETTINGS] + ["walk 0"] * 198
        self.assertEqual(answers(*lines), ["ok", "ok"] + ["0 3 7 12 17 20"] * 198)
        self.assertEqual(session(rows=ROW), "ok")
        self.assertIs(type(session(ROW)), str)
        self.assertEqual(session(ROW + "\n"), "ok\n?")

    def test_sessions_stand_alone(self):
        self.assertEqual(answers(ROW, SETTINGS), ["ok", "ok"])
        self.assertEqual(answers("walk 0"), ["?"])
        lines = "\n".join([ROW, SETTINGS, "change 0-3 by 0:", "walk 0", "back", "walk 0"])
        self.assertEqual(session(lines), session(lines))

    def test_great_numbers(self):
        tenth = 10 ** 29
        told = answers(f"row {GREAT}: {GREAT // 2}!", f"settings {tenth // 10}-{tenth // 10}-{tenth}", "basin 5",
                       f"basin {GREAT}", "entries 0", f"worst 0 {tenth} {tenth}", f"change 0-{GREAT} by 1:", "walk 0")
        # The mark serves no place before 0; and walks through new cells may come too near to it to have it as a cut.
        self.assertEqual(told, ["ok", "ok", "5", f"0-{GREAT}", f"0-{tenth - 1}", f"{GREAT}", "ok", "0 1"])

    def test_mixed_sessions(self):
        for random, slow in mixed_rows(95, 150, 40):
            lines = ["row " + write_row(slow.row), "settings " + write_settings(slow.settings)]
            lines += [self.some_line(random, slow.length) for _ in range(40)]
            if random.random() < 0.2:
                random.shuffle(lines)
            model = Model()
            self.assertEqual(session("\n".join(lines)), "\n".join([model.answer(line) for line in lines]), lines)

    def some_line(self, random, length):
        word = random.choice(["walk", "sure", "entries", "basin", "rejoin", "effect", "worst", "change", "change", "back", "back"])
        numbers = [str(random.randint(0, length + 1)) for _ in range(3)]
        if word in ("walk", "sure", "entries", "basin"):
            line = word + " " + numbers[0]
        elif word == "back":
            line = word
        elif word == "worst":
            line = " ".join([word] + sorted(numbers[:2], key=int) + [str(random.randint(0, 9))])
        else:
            begin, end = sorted([random.randint(0, length), random.randint(0, length)])
            marks = sorted(random.sample(range(1, 9), random.randint(0, 3)))
            line = word + " " + write_change((begin, min(end, begin + 4), 9, marks, marks[::2]))
        if random.random() < 0.1:
            line = random.choice([line + " ", line + " 3", line[:-1], line.replace(" ", "", 1), line[1:], "", SETTINGS, ROW])
        return line


class ResultTest(unittest.TestCase):
    def test_every_answer_against_the_call_it_stands_for(self):
        row, settings = read_row("20: 3! 7 8! 13"), (2, 4, 5)
        for place in range(21):
            told = answers(ROW, SETTINGS, f"walk {place}", f"basin {place}")
            self.assertEqual(told[2], " ".join(map(str, walk(row, settings, place))))
            model = Model()
            model.row, model.settings = row, settings
            for word in ["walk", "sure", "entries", "basin"]:
                self.assertEqual(answers(ROW, SETTINGS, f"{word} {place}")[2], model.answer(f"{word} {place}"))
            for end in range(place, 21):
                for length in [0, 1, 5]:
                    line = f"worst {place} {end} {length}"
                    self.assertEqual(answers(ROW, SETTINGS, line)[2], model.answer(line))


if __name__ == "__main__":
    unittest.main()
