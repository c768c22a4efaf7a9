"""Helpers: marks that make a cut sure whatever stands before them, and the marks at which walks come together."""

from cutwalks.checks import MOST_MARKS, check_place_from, check_settings
from cutwalks.errors import TooLarge
from cutwalks.meetings import check_inner, entries_at
from cutwalks.places import count_places, counts_within, is_within
from cutwalks.ranges import all_cuts
from cutwalks.stretches import earliest, latest


def fewest_marks(settings, is_strict):
    """How many marks of one strength are enough to make the last one sure; None if no number is enough."""
    check_settings(settings)
    return marks_for(settings[2] - 1, settings[2] - serving_from(settings, is_strict))


def helping_marks(settings, place, is_strict):
    """The list of these marks for place, the first one at place + greatest."""
    check_settings(settings)
    check_place_from(place, 0)
    between = serving_from(settings, is_strict)
    many = marks_for(settings[2] - 1, settings[2] - between)
    if many is None or many > MOST_MARKS:
        raise TooLarge("so many marks no row can have")
    return [place + settings[2] + number * between for number in range(many)]


def taken(row, settings, place):
    """The list of (cut, how many): where the walks from the entries at place come together, and how often there."""
    check_inner(row, settings, place)
    ranges = entries_at(row, settings, place)
    cuts = [mark for mark in row.marks if mark > place] + [row.length]
    before = [(earliest(row, settings, cut), latest(row, settings, cut)) for cut in cuts]
    found = []
    for cut, many in zip(cuts, counts_within(all_cuts(row, settings, ranges), before)):
        # The first walk to come to a cut that is no entry takes its place in S; only the others make S smaller.
        often = many if is_within(ranges, cut) else many - 1
        if often > 0:
            found.append((cut, often))
    return found


def needed(row, settings, place):
    """The number of strict marks without which the walks from the entries at place cannot come together."""
    check_inner(row, settings, place)
    many = count_places(entries_at(row, settings, place))
    return marks_for(many - 1, settings[2] - settings[0])


def serving_from(settings, is_strict):
    """The least length of a piece that ends at a mark of this strength."""
    return settings[0] if is_strict else settings[1]


def marks_for(many, each):
    """How many marks take many walks away if each takes at most this many; None if no number does."""
    if many == 0:
        return 0
    if each == 0:
        return None
    return (many + each - 1) // each
