"""Ranges of starts, followed all at once: their next cuts, and their first cuts from a place on."""

from heapq import heappop, heappush

from cutwalks.checks import check_place, check_ranges, check_settings, check_size
from cutwalks.places import joined_ranges
from cutwalks.stretches import stretch


def image(row, settings, ranges):
    """The ranges of the next cuts of the places of ranges that are before the end."""
    check_settings(settings)
    check_ranges(ranges, row.length)
    check_size(row, settings)
    return next_ranges(row, settings, ranges)


def first_cuts(row, settings, ranges, place):
    """The ranges of the first cuts from place on of the walks from all places of ranges."""
    check_settings(settings)
    check_ranges(ranges, row.length)
    check_place(place, ranges[-1][1], row.length)
    check_size(row, settings)
    return ranges_from(row, settings, ranges, place)


def next_ranges(row, settings, ranges):
    """The image of valid arguments; the ranges may begin before the row, see stretches."""
    pairs = []
    for begin, end in ranges:
        low = begin
        high = min(end, row.length - 1)
        while low <= high:
            last, pair = stretch(row, settings, low, high)
            pairs.append(pair)
            low = last + 1
    return joined_ranges(pairs)


def ranges_from(row, settings, ranges, place):
    """The first cuts of valid arguments."""
    _, found = followed(row, settings, ranges, place)
    return joined_ranges(found)


def all_cuts(row, settings, ranges):
    """The ranges of all cuts of the walks from all places of ranges."""
    before, found = followed(row, settings, ranges, row.length)
    return joined_ranges(before + found)


def followed(row, settings, ranges, place):
    """Pairs of the cuts before place of the walks from all places of ranges, and of the first ones from place on."""
    # The pairs waiting are followed in the order of their places, and none twice: so walks that have met are
    # followed as one, and how far apart the starts lie does not matter.
    waiting = list(ranges)
    passed = 0
    before = []
    found = []
    while len(waiting) > 0:
        low, high = heappop(waiting)
        if high >= place:
            found.append((max(low, place), high))
            high = place - 1
        low = max(low, passed)
        if low <= high:
            last, pair = stretch(row, settings, low, high)
            before.append((low, last))
            passed = last + 1
            heappush(waiting, pair)
            if last < high:
                heappush(waiting, (passed, high))
    return before, found
