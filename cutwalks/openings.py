"""Openings: changes whose marks are open, and what the walk from 0 can do in and behind the new cells."""

from cutwalks.lines import changed_line
from cutwalks.places import common_places, joined_ranges, moved_ranges
from cutwalks.ranges import next_ranges
from cutwalks.stretches import earliest, latest
from cutwalks.walks import step


class Opening:
    """The changes with this begin, end and length; its places are those of the changed rows, if not told otherwise."""

    def __init__(self, row, settings, begin, end, length):
        self.settings = settings
        self.change = (begin, end, length)
        self.line = changed_line(row, (begin, end, length, [], []))
        self.top = begin + length
        # At the end of the changed row no mark of a change may stand.
        self.last = self.top if end < row.length else self.top - 1
        self.levels = self.find_levels(begin)

    def find_levels(self, begin):
        """Ranges: in the k-th one, the k-th cuts that are possible among the new cells, all of them."""
        # The 0-th is the last cut before them. What the cuts up to begin are, no mark behind begin decides.
        least, _, greatest = self.settings
        fixed = last_fixed(self.line, self.settings, begin)
        found = [(fixed, fixed)]
        low = max(fixed + least, begin + 1)
        high = min(fixed + greatest, self.last)
        while low <= high:
            found.append((low, high))
            low = low + least
            high = min(high + greatest, self.last)
        return found

    def entry_ranges(self):
        """The ranges of the first cuts from the end of the change on, as old places."""
        top = [(self.top, self.top)]
        at_top = top if len(common_places(self.levels, top)) > 0 else []
        leaving = common_places(self.levels, self.leaving())
        behind = next_ranges(self.line, self.settings, joined_ranges(leaving))
        return moved_ranges(joined_ranges(at_top + behind), self.old_by())

    def leaving(self):
        """The ranges, none or one, of the places from which a next cut may lie behind the new cells."""
        # From places further before, the next cut comes among the new cells also if they have no marks.
        low = self.last - self.settings[2] + 1
        return [(low, self.top - 1)] if low < self.top else []

    def old_by(self):
        """By how much old places from the end of the change on are greater than those of the changed rows."""
        begin, end, length = self.change
        return end - begin - length

    def change_to(self, entry):
        """One of the changes in which this old place, one of the entries, is the first cut from their end on."""
        begin, end, length = self.change
        marks = [place - begin for place in self.path_to(entry - self.old_by())]
        return begin, end, length, marks, list(marks)

    def path_to(self, entry):
        """Places for strict marks that lead the walk from 0 to this entry."""
        before = [(earliest(self.line, self.settings, entry), latest(self.line, self.settings, entry))]
        origins = common_places(before, self.leaving())
        if entry == self.top:
            origins.append((entry, entry))
        for number, level in enumerate(self.levels):
            places = common_places([level], origins)
            if len(places) > 0:
                return self.path_back(number, places[0][0])
        return []

    def path_back(self, number, place):
        """The cuts that lead to this place of the level with this number, the one before the new cells left out."""
        found = []
        for low, _ in self.levels[:number][::-1]:
            found.append(place)
            place = max(low, place - self.settings[2])
        return found[::-1]


def last_fixed(line, settings, begin):
    """The last cut up to begin of the walk from 0."""
    place = 0
    while place < line.length:
        after = step(line, settings, place)
        if after > begin:
            return place
        place = after
    return place
