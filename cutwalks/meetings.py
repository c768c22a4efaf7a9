"""Meetings: the walks through any content before a place, and where they are the same again."""

from cutwalks.checks import check_place, check_settings, check_size, is_integer
from cutwalks.places import count_places, first_above, is_within, joined_ranges, last_up_to, least_outside
from cutwalks.ranges import next_ranges, ranges_from
from cutwalks.rows import Row
from cutwalks.starts import first_common, first_index, starts_with
from cutwalks.stretches import earliest
from cutwalks.walks import cuts_from, step


def entries(row, settings, place):
    """The ranges of the first cuts from place on that walks through any content before it can have."""
    check_inner(row, settings, place)
    return entries_at(row, settings, place)


def meeting(row, settings, first, second):
    """The first cut that the walks from two starts both have."""
    check_settings(settings)
    check_place(first, 0, row.length)
    check_place(second, 0, row.length)
    check_size(row, settings)
    while first != second:
        # The walk that is behind goes on, so neither can pass a cut of the other one unseen.
        first, second = step(row, settings, min(first, second)), max(first, second)
    return first


def sure_cut(row, settings, place):
    """The first sure cut for place."""
    check_inner(row, settings, place)
    cuts = cuts_from(row, settings, place)
    return cuts[first_common(row, settings, cuts, entries_at(row, settings, place))]


def last_apart(row, settings, place):
    """The least entry whose walk meets the walk from place at the first sure cut and not before."""
    check_inner(row, settings, place)
    ranges = entries_at(row, settings, place)
    cuts = cuts_from(row, settings, place)
    at = first_common(row, settings, cuts, ranges)
    if at == 0:
        return place
    return least_outside(ranges, starts_with(row, settings, cuts[at - 1]))


def apart(row, settings, place, far):
    """How many different first cuts from far on the walks from all entries have."""
    check_settings(settings)
    check_place(place, 0, row.length - 1)
    check_place(far, place, row.length)
    check_size(row, settings)
    return count_places(ranges_from(row, settings, entries_at(row, settings, place), far))


def meeting_paper(row, settings, place):
    """The paper (entry, k) with the least k, of several ones that with the greatest entry."""
    check_inner(row, settings, place)
    ranges = entries_at(row, settings, place)
    many = len(cuts_from(row, settings, place))
    # The cuts behind those that a paper tells of make a paper again, so papers stay with all greater k.
    k = first_index(many, lambda at: is_paper(row, settings, ranges, last_entry(row, settings, ranges, at), at))
    return last_entry(row, settings, ranges, k), k


def shows_meeting(row, settings, place, thing):
    """Whether any object is a paper for place."""
    check_inner(row, settings, place)
    if not isinstance(thing, tuple) or len(thing) != 2:
        return False
    entry, k = thing
    if not is_integer(entry) or not is_integer(k) or k < 0:
        return False
    ranges = entries_at(row, settings, place)
    return is_within(ranges, entry) and is_paper(row, settings, ranges, entry, k)


def check_inner(row, settings, place):
    """The errors of settings and of a place before the end."""
    check_settings(settings)
    check_place(place, 0, row.length - 1)
    check_size(row, settings)


def entries_at(row, settings, place):
    """The entries of valid arguments."""
    # By R2 they are the next cuts of the places less than greatest before place, where no mark up to place stands.
    marks = [mark for mark in row.marks if mark > place]
    strict = [mark for mark in row.strict if mark > place]
    before = [(place - settings[2] + 1, place - 1)]
    return joined_ranges([(place, place)] + next_ranges(Row(row.length, marks, strict), settings, before))


def is_paper(row, settings, ranges, entry, k):
    """Whether an entry and k >= 0 are a paper; the ranges are those of all entries."""
    cuts = cuts_from(row, settings, ranges[0][0])
    after = first_above(ranges, entry, cuts[1])
    if count_cut(cuts_from(row, settings, entry), k) != count_cut(cuts, k):
        return False
    return count_cut(cuts_from(row, settings, after), k) == count_cut(cuts, k + 1)


def count_cut(cuts, k):
    """The k-th of the cuts of a walk; behind the last one all are the end again."""
    return cuts[min(k, len(cuts) - 1)]


def last_entry(row, settings, ranges, k):
    """The greatest entry whose k-th cut is that of the least entry; the ranges are those of all entries."""
    cut = count_cut(cuts_from(row, settings, ranges[0][0]), k)
    if cut == row.length:
        return ranges[-1][1]
    above = cut + 1
    for _ in range(k):
        above = earliest(row, settings, above)
    return last_up_to(ranges, above - 1)
