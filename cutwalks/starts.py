"""Starts: which walks have a cut, and which cut walks have in common."""

from cutwalks.checks import check_ranges, check_settings, check_size
from cutwalks.places import count_places, joined_ranges, least_outside
from cutwalks.stretches import earliest, latest
from cutwalks.walks import check_walk, cuts_from


def basin(row, settings, cut):
    """The ranges of all starts whose walk has the cut."""
    check_walk(row, settings, [cut])
    return starts_with(row, settings, cut)


def share(row, settings, cut):
    """How many starts have a walk with the cut."""
    check_walk(row, settings, [cut])
    return count_places(starts_with(row, settings, cut))


def sure_for(row, settings, ranges):
    """The first cut that the walks from all places of ranges have."""
    check_settings(settings)
    check_ranges(ranges, row.length)
    check_size(row, settings)
    cuts = cuts_from(row, settings, ranges[0][0])
    return cuts[first_common(row, settings, cuts, ranges)]


def partners(row, settings, start):
    """The ranges of the starts whose walk meets the walk from start before the end."""
    check_walk(row, settings, [start])
    cuts = cuts_from(row, settings, start)
    if len(cuts) == 1:
        return []
    # Walks that have met stay together, so all of them have the last cut before the end.
    return starts_with(row, settings, cuts[-2])


def starts_with(row, settings, cut):
    """The basin of valid arguments."""
    # As next cuts do not fall, the places whose k-th cut is this one are neighbours, for each k.
    found = []
    low = high = cut
    while low <= high:
        found.append((low, high))
        low = max(earliest(row, settings, low), 0)
        high = latest(row, settings, high)
    return joined_ranges(found[::-1])


def first_common(row, settings, cuts, ranges):
    """The index of the first of the cuts, those of a walk, that the walks from all places of ranges have."""
    return first_index(len(cuts), lambda at: all_have(row, settings, cuts[at], ranges))


def all_have(row, settings, cut, ranges):
    """Whether the walks from all places of ranges have the cut."""
    return least_outside(ranges, starts_with(row, settings, cut)) is None


def first_index(many, holds):
    """The first index below many at which holds is true; it is true at all later ones, and at the last one."""
    low = 0
    high = many - 1
    while low < high:
        middle = (low + high) // 2
        if holds(middle):
            high = middle
        else:
            low = middle + 1
    return low
