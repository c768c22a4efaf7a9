"""Stretches of places whose next cuts are alike, so that great rows need no look at each place.

Places before the row count too: the next cut of such a place is the one it would have if the row went on to the
left without marks. As places go up, next cuts do not fall (R1); everything here builds on that.
"""

from cutwalks.walks import count_before, first_mark, step


def stretch(row, settings, low, high):
    """The last place up to high so that all places from low to it have one range of next cuts; and this range."""
    cut = step(row, settings, low)
    after = first_mark(row.marks, cut, row.length)
    if after > cut:
        # No mark serves low, nor any later place before the one that is greatest before the next mark.
        last = min(high, after - settings[2])
        return last, (cut, last + settings[2])
    return min(high, latest(row, settings, cut)), (cut, cut)


def earliest(row, settings, cut):
    """The least place whose next cut is not before cut; it may lie before the row."""
    least, normal, greatest = settings
    strict = last_mark(row.strict, cut, cut - greatest)
    either = last_mark(row.marks, cut, cut - greatest)
    # Places from which a mark before cut can still be reached have their next cut there, or before it.
    return max(cut - greatest, strict + 1 - least, either + 1 - normal)


def latest(row, settings, cut):
    """The greatest place whose next cut is not behind cut; it may lie before the row."""
    if cut == row.length:
        return row.length - 1
    return earliest(row, settings, cut + 1) - 1


def last_mark(marks, place, otherwise):
    """The last of the marks before place, or the other number if there is none."""
    at = count_before(marks, place)
    return marks[at - 1] if at > 0 else otherwise
