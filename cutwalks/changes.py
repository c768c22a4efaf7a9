"""Changes: which pieces they leave, and how far behind them the cuts can differ."""

from cutwalks.checks import check_length, check_settings, check_size, is_change, is_replacement
from cutwalks.errors import InvalidChange
from cutwalks.lines import changed_line
from cutwalks.openings import Opening
from cutwalks.places import common_places, least_outside
from cutwalks.starts import first_common, first_index, starts_with
from cutwalks.walks import count_before, cuts_from


def rejoin(row, settings, change):
    """The first old place from the end of the change on that is a cut of the walks from 0 of both rows."""
    check_change(row, settings, change)
    old, new = both_walks(row, settings, change)
    return first_again(old, new, change)


def effect(row, settings, change):
    """How many pieces of the old walk from 0 are left, how many are lost, and how many the new walk has instead."""
    check_change(row, settings, change)
    old, new = both_walks(row, settings, change)
    after = set(new)
    before = [cut for cut in old if cut <= change[0] and cut in after]
    again = first_again(old, new, change)
    kept = count_before(old, before[-1]) + len(old) - 1 - count_before(old, again)
    return kept, len(old) - 1 - kept, len(new) - 1 - kept


def entries_behind(row, settings, begin, end, length):
    """The ranges of the first cuts from end on that the walk from 0 can have in the rows of these changes."""
    check_replacement(row, settings, begin, end, length)
    return Opening(row, settings, begin, end, length).entry_ranges()


def latest_rejoin(row, settings, begin, end, length):
    """The last of the rejoins of these changes."""
    check_replacement(row, settings, begin, end, length)
    ranges = Opening(row, settings, begin, end, length).entry_ranges()
    cuts = cuts_behind(row, settings, end)
    return cuts[first_common(row, settings, cuts, ranges)]


def earliest_rejoin(row, settings, begin, end, length):
    """The first of the rejoins of these changes."""
    check_replacement(row, settings, begin, end, length)
    ranges = Opening(row, settings, begin, end, length).entry_ranges()
    cuts = cuts_behind(row, settings, end)
    return cuts[first_shared(row, settings, cuts, ranges)]


def worst_change(row, settings, begin, end, length):
    """A change whose rejoin is the last one."""
    check_replacement(row, settings, begin, end, length)
    opening = Opening(row, settings, begin, end, length)
    ranges = opening.entry_ranges()
    cuts = cuts_behind(row, settings, end)
    at = first_common(row, settings, cuts, ranges)
    if at == 0:
        return opening.change_to(ranges[0][0])
    return opening.change_to(least_outside(ranges, starts_with(row, settings, cuts[at - 1])))


def best_change(row, settings, begin, end, length):
    """A change whose rejoin is the first one."""
    check_replacement(row, settings, begin, end, length)
    opening = Opening(row, settings, begin, end, length)
    ranges = opening.entry_ranges()
    cuts = cuts_behind(row, settings, end)
    at = first_shared(row, settings, cuts, ranges)
    chosen = common_places(ranges, starts_with(row, settings, cuts[at]))
    return opening.change_to(chosen[0][0])


def check_change(row, settings, change):
    """The errors of settings and of a change."""
    check_settings(settings)
    if not is_change(change, row.length):
        raise InvalidChange("not a change of this row")
    begin, end, length, _, _ = change
    check_sizes(row, settings, row.length - (end - begin) + length)


def check_replacement(row, settings, begin, end, length):
    """The errors of settings and of begin, end and length of a change."""
    check_settings(settings)
    if not is_replacement(begin, end, length, row.length):
        raise InvalidChange("no change of this row has such begin, end and length")
    check_sizes(row, settings, row.length - (end - begin) + length)


def check_sizes(row, settings, new_length):
    """TooLarge if the row or the changed row is too long for the settings."""
    check_size(row, settings)
    check_length(new_length, settings)


def both_walks(row, settings, change):
    """The cuts of the walks from 0 of the row and of the changed row."""
    return cuts_from(row, settings, 0), cuts_from(changed_line(row, change), settings, 0)


def first_again(old, new, change):
    """The first old place from the end of the change on that is one of the cuts of both walks."""
    begin, end, length, _, _ = change
    move = length - (end - begin)
    after = set(new)
    return [cut for cut in old if cut >= end and cut + move in after][0]


def cuts_behind(row, settings, end):
    """The cuts from end on of the old walk from 0."""
    cuts = cuts_from(row, settings, 0)
    return cuts[count_before(cuts, end):]


def first_shared(row, settings, cuts, ranges):
    """The index of the first of the cuts, those of a walk, that the walk from some place of ranges has."""
    # Walks that have met stay together, so all later cuts are shared, too.
    return first_index(len(cuts), lambda at: len(common_places(ranges, starts_with(row, settings, cuts[at]))) > 0)
