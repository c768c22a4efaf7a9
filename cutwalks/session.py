"""Sessions: lines that ask for the calls of this package, and their answers."""

from cutwalks.changes import effect, latest_rejoin, rejoin
from cutwalks.errors import CutError, NothingToUndo
from cutwalks.meetings import entries, sure_cut
from cutwalks.starts import basin
from cutwalks.texts import read_change, read_row, read_settings
from cutwalks.walks import walk
from cutwalks.words import read_number

UNKNOWN = "?"
DONE = "ok"
WITH_TEXT = ("row", "settings", "rejoin", "effect", "change")
# How many numbers stand behind these words.
WITH_NUMBERS = {"walk": 1, "sure": 1, "entries": 1, "basin": 1, "worst": 3, "back": 0}


class Desk:
    """What the lines of a session have said so far: row and settings, None at first, and earlier rows."""

    def __init__(self):
        self.row = None
        self.settings = None
        self.earlier = []


def session(rows):
    """The answers to the lines of a string, one line for each."""
    desk = Desk()
    answers = []
    for line in rows.split("\n"):
        answers.append(answer_to(desk, line))
    return "\n".join(answers)


def answer_to(desk, line):
    """The answer to one line."""
    words = line.split(" ")
    if "" in words:
        return UNKNOWN
    word = words[0]
    try:
        if word in WITH_TEXT and len(words) > 1:
            return answer_to_text(desk, word, " ".join(words[1:]))
        numbers = [read_number(part) for part in words[1:]]
        if len(numbers) == WITH_NUMBERS.get(word, -1) and None not in numbers:
            return answer_to_numbers(desk, word, numbers)
    except CutError as e:
        return type(e).__name__
    return UNKNOWN


def answer_to_text(desk, word, text):
    """The answer to a line with a text behind its first word."""
    if word == "row":
        desk.row = read_row(text)
        desk.earlier = []
        return DONE
    if word == "settings":
        desk.settings = read_settings(text)
        return DONE
    if not is_ready(desk):
        return UNKNOWN
    change = read_change(text)
    if word == "rejoin":
        return f"{rejoin(desk.row, desk.settings, change)}"
    if word == "effect":
        return written_numbers(list(effect(desk.row, desk.settings, change)))
    changed = desk.row.changed(change)
    desk.earlier.append(desk.row)
    desk.row = changed
    return DONE


def answer_to_numbers(desk, word, numbers):
    """The answer to a line with numbers, or with nothing, behind its first word."""
    if not is_ready(desk):
        return UNKNOWN
    if word == "back":
        if len(desk.earlier) == 0:
            raise NothingToUndo("no change line is left")
        desk.row = desk.earlier.pop()
        return DONE
    if word == "worst":
        begin, end, length = numbers
        return f"{latest_rejoin(desk.row, desk.settings, begin, end, length)}"
    place = numbers[0]
    if word == "walk":
        return written_numbers(walk(desk.row, desk.settings, place))
    if word == "sure":
        return f"{sure_cut(desk.row, desk.settings, place)}"
    asked = entries if word == "entries" else basin
    return written_ranges(asked(desk.row, desk.settings, place))


def is_ready(desk):
    """Whether there are both a row and settings."""
    return desk.row is not None and desk.settings is not None


def written_numbers(numbers):
    """Numbers with single blanks between them."""
    return " ".join([f"{number}" for number in numbers])


def written_ranges(ranges):
    """The text of ranges; a range of one place is this place."""
    words = [f"{low}" if low == high else f"{low}-{high}" for low, high in ranges]
    return " ".join(words) if len(words) > 0 else "-"
