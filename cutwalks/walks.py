"""Walks: the cuts from a start on, and the settings that give known cuts."""

from cutwalks.checks import are_ascending, check_place, check_settings, check_size
from cutwalks.errors import InvalidCuts


def next_cut(row, settings, place):
    """The next cut of a place before the end of the row."""
    check_settings(settings)
    check_place(place, 0, row.length - 1)
    check_size(row, settings)
    return step(row, settings, place)


def walk(row, settings, start):
    """The list of the cuts of the walk from start, start and the end included."""
    check_walk(row, settings, [start])
    return cuts_from(row, settings, start)


def first_from(row, settings, start, place):
    """The first cut of the walk from start that is not before place."""
    check_walk(row, settings, [start, place])
    cuts = cuts_from(row, settings, start)
    return cuts[count_before(cuts, place)]


def cuts_within(row, settings, start, low, high):
    """How many cuts of the walk from start are not before low, but before high."""
    check_walk(row, settings, [start, low, high])
    cuts = cuts_from(row, settings, start)
    return count_before(cuts, high) - count_before(cuts, low)


def settings_for(row, cuts):
    """The bounds of the settings that give these cuts as a walk, or None if none do."""
    if not are_ascending(cuts, 0, row.length) or cuts[-1:] != [row.length]:
        raise InvalidCuts("cuts are places, ascending up to the end of the row")
    lows = low_bounds(row, cuts)
    tops = top_bounds(row, cuts)
    if not some_settings(lows, tops):
        return None
    return lows[0], tops[0], lows[1], tops[1], lows[2], tops[2]


def check_walk(row, settings, places):
    """The errors of settings, of a start and places from it on, none below the one before it."""
    check_settings(settings)
    low = 0
    for place in places:
        check_place(place, low, row.length)
        low = place
    check_size(row, settings)


def step(row, settings, place):
    """The next cut, of valid arguments."""
    least, normal, greatest = settings
    # From normal on marks of both kinds serve, so there the kind of a mark is not asked.
    strict = first_mark(row.strict, place + least, row.length)
    either = first_mark(row.marks, place + normal, row.length)
    return min(strict, either, place + greatest, row.length)


def cuts_from(row, settings, start):
    """The cuts of the walk from start, of valid arguments."""
    cuts = [start]
    while cuts[-1] < row.length:
        cuts.append(step(row, settings, cuts[-1]))
    return cuts


def first_mark(marks, place, end):
    """The first of the marks that is not before place, or end if there is none."""
    at = count_before(marks, place)
    return marks[at] if at < len(marks) else end


def count_before(places, place):
    """How many of the ascending places are before place."""
    low = 0
    high = len(places)
    while low < high:
        middle = (low + high) // 2
        if places[middle] < place:
            low = middle + 1
        else:
            high = middle
    return low


def plain_marks(row):
    """The list of the marks that are not strict."""
    strict = set(row.strict)
    return [mark for mark in row.marks if mark not in strict]


def low_bounds(row, cuts):
    """The least numbers that each piece allows for least, normal and greatest."""
    strict = row.strict
    plain = plain_marks(row)
    least = normal = greatest = 1
    for begin, end in zip(cuts, cuts[1:]):
        least = max(least, last_within(strict, begin, end) + 1)
        normal = max(normal, last_within(plain, begin, end) + 1)
        greatest = max(greatest, end - begin)
    return [least, normal, greatest]


def last_within(marks, begin, end):
    """How far behind begin the last mark between begin and end stands, 0 if there is none."""
    at = count_before(marks, end)
    if at == 0:
        return 0
    return max(marks[at - 1] - begin, 0)


def top_bounds(row, cuts):
    """The greatest numbers that the pieces allow for least, normal and greatest, or None."""
    # The end of the row is a cut whatever the settings are, so the last piece bounds nothing.
    ends = cuts[:-1]
    pieces = [(end, end - begin) for begin, end in zip(ends, ends[1:])]
    marks = set(row.marks)
    strict = set(row.strict)
    at_strict = [length for end, length in pieces if end in strict]
    at_plain = [length for end, length in pieces if end in marks and end not in strict]
    at_none = [length for end, length in pieces if end not in marks]
    return [min(lengths, default=None) for lengths in (at_strict, at_plain, at_none)]


def some_settings(lows, tops):
    """Whether any settings lie within the bounds: if some do, the smallest ones do."""
    number = 1
    for low, top in zip(lows, tops):
        number = max(number, low)
        if top is not None and number > top:
            return False
    return True
