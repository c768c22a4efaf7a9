"""The definitions of the document, word by word and slowly, and values that tests share."""

from itertools import product

from cutwalks.errors import CutError, InvalidPlace
from cutwalks.rows import Row

GREAT = 10 ** 30 - 1

# One of each kind of "any object" that is neither a list nor a tuple nor an integer.
ODD_THINGS = [
    None, True, False, "", "3", "1-2-3", {}, {"a": [1]}, Row(3, [1], []), Row(1, [], []),
    CutError("x"), InvalidPlace("x"),
]

# What is no integer, to stand in lists and tuples.
NO_INTEGERS = [
    None, True, False, "", "1", [], [1], (), (1,), {}, {"a": 1}, Row(3, [1], []), CutError("x"),
]


def serves(marks, strict, settings, place, mark):
    least, normal, greatest = settings
    low = least if mark in strict else normal
    return mark in marks and place + low <= mark <= place + greatest


def next_by_definition(length, marks, strict, settings, place):
    for mark in marks:
        if serves(marks, strict, settings, place, mark):
            return mark
    return min(place + settings[2], length)


def walk_by_definition(length, marks, strict, settings, start):
    cuts = [start]
    while cuts[-1] != length:
        cuts.append(next_by_definition(length, marks, strict, settings, cuts[-1]))
    return cuts


def changed_by_definition(length, marks, strict, change):
    """The length and the dict of the marks, place to strength, of the changed row."""
    begin, end, new_cells, new_marks, new_strict = change
    move = new_cells - (end - begin)
    found = {}
    for mark in marks:
        if mark <= begin:
            found[mark] = mark in strict
        elif mark > end:
            found[mark + move] = mark in strict
    for mark in new_marks:
        found[begin + mark] = mark in new_strict
    found.pop(length + move, None)
    return length + move, found


def small_rows(longest):
    """All (length, marks, strict) with a length up to longest."""
    for length in range(1, longest + 1):
        for kinds in product((0, 1, 2), repeat=length - 1):
            marks = [place + 1 for place, kind in enumerate(kinds) if kind]
            strict = [place + 1 for place, kind in enumerate(kinds) if kind == 2]
            yield length, marks, strict


def small_settings(highest):
    for least in range(1, highest + 1):
        for normal in range(least, highest + 1):
            for greatest in range(normal, highest + 1):
                yield least, normal, greatest


def ascending_lists(low, high):
    """All ascending lists of places from low to high."""
    places = range(low, high + 1)
    for chosen in product((False, True), repeat=len(places)):
        yield [place for place, is_in in zip(places, chosen) if is_in]


def wrong_lists(low, high):
    """Any objects that are no lists of integers from low to high; low itself is one."""
    wrong = ODD_THINGS + [0, 1, -1, low, high, (), (low,), (low, high)]
    wrong += [[thing] for thing in NO_INTEGERS]
    wrong += [[low, thing] for thing in NO_INTEGERS]
    wrong += [[thing, low] for thing in NO_INTEGERS]
    wrong += [[low - 1], [high + 1], [low, high + 1], [low - 1, low], [GREAT], [-GREAT]]
    return wrong


def wrong_settings():
    """Any objects that are no settings."""
    wrong = ODD_THINGS + [0, 1, 2, (), (2,), (2, 4), (2, 4, 5, 6), [], [2, 4, 5], [(2, 4, 5)], ((2, 4, 5),)]
    for thing in NO_INTEGERS:
        wrong += [(thing, 4, 5), (2, thing, 5), (2, 4, thing)]
    wrong += [(0, 4, 5), (-1, 4, 5), (0, 0, 0), (-2, -1, 5), (3, 2, 5), (2, 5, 4), (5, 4, 2), (6, 4, 5)]
    wrong += [(GREAT, GREAT - 1, GREAT), (GREAT, GREAT, GREAT - 1), (-GREAT, 1, 2)]
    # Booleans that would pass if they counted as the integers 0 and 1.
    wrong += [(True, True, True), (True, 1, 1), (1, True, 1), (1, 1, True), (True, 4, 5)]
    return wrong
