"""Known pieces: what the places of the rows that fit to them can be, and what walks through these rows can do.

A piece (p, q) tells something of the places behind p up to q only: which marks do not stand before q, and what q is.
So the pieces of one walk never tell of the same place, and each step that fits alone fits with all other ones.
"""

from heapq import heappop, heappush

from cutwalks.places import joined_ranges, last_up_to
from cutwalks.rows import KINDS, Row


class Known:
    """The rows of one length that fit to some pieces; there are such rows."""

    def __init__(self, end, settings, pieces):
        self.end = end
        self.settings = settings
        self.pieces = pieces
        self.fixed = fixed_places(end, settings, pieces)
        self.targets = self.find_targets()

    def kinds(self, place):
        """What a place before the end is in some row that fits."""
        return kinds_left(self.end, self.settings, self.pieces, place)

    def find_targets(self):
        """Stretches of places (low, high, reach, first), in which a next cut c is possible alike.

        The places that can have it are those from first and from c - greatest on, up to c - reach.
        """
        least, normal, greatest = self.settings
        turns = [1]
        for begin, last in self.pieces:
            turns.extend([begin + least, begin + normal, last, last + 1])
        lows = sorted(set([low for low in turns if low < self.end]))
        found = []
        for low, after in zip(lows, lows[1:] + [self.end]):
            kinds = self.kinds(low)
            reach = least if "strict" in kinds else normal if "plain" in kinds else greatest
            found.append((low, after - 1, reach, self.first_beyond(low)))
        # The end is the next cut of every place that reaches it, however near.
        found.append((self.end, self.end, 1, self.first_beyond(self.end)))
        return found

    def first_beyond(self, cut):
        """The first place whose next cut need not be before cut, because of the marks that all rows that fit have."""
        least, normal, _ = self.settings
        first = 0
        for place, kinds in self.fixed:
            if place < cut:
                first = max(first, place + 1 - (normal if "plain" in kinds else least))
        return first

    def steps(self, low, high):
        """Pairs, ascending, of the possible next cuts of the places from low to high."""
        greatest = self.settings[2]
        found = []
        for begin, last, reach, first in self.targets:
            start = max(low, first)
            if start <= min(high, self.end - 1):
                pair = (max(start + reach, begin), min(high + greatest, last))
                if pair[0] <= pair[1]:
                    found.append(pair)
        return found

    def possible(self, start):
        """The ranges of the possible cuts of the walk from start."""
        waiting = [(start, start)]
        found = []
        while len(waiting) > 0:
            # What comes of these places lies at least a least length behind the first one (or is the end).
            now = first_places(waiting, waiting[0][0] + self.settings[0])
            found.extend(now)
            for low, high in now:
                for pair in self.steps(low, high):
                    heappush(waiting, pair)
        return joined_ranges(found)

    def farthest(self, place):
        """The last possible next cut of a place before the end."""
        return self.steps(place, place)[-1][1]

    def path(self, ranges, start, place):
        """Pieces of a walk from start to one of its possible cuts, of which the ranges are given."""
        found = []
        while place > start:
            near = [reach for low, high, reach, _ in self.targets if low <= place <= high]
            # Of the places that can have this next cut, the walk comes to the last one, if it comes to any.
            before = last_up_to(ranges, place - near[0])
            found.append((before, place))
            place = before
        return found

    def row_with(self, more):
        """A row that fits, to more pieces too; they fit as well."""
        fixed = fixed_places(self.end, self.settings, self.pieces + more)
        # What need not be strict is plain, what need not be a mark is none.
        strict = [place for place, kinds in fixed if "plain" not in kinds]
        return Row(self.end, [place for place, _ in fixed], strict)


def first_places(waiting, end):
    """The ranges of the places before end of all pairs waiting in a heap, where the places from end on stay."""
    found = []
    rest = end - 1
    while len(waiting) > 0 and waiting[0][0] < end:
        low, high = heappop(waiting)
        found.append((low, min(high, end - 1)))
        rest = max(rest, high)
    if rest >= end:
        heappush(waiting, (end, rest))
    return joined_ranges(found)


def fixed_places(end, settings, pieces):
    """The list of (place, kinds) of the places that are marks in every row that fits to these pieces, ascending."""
    ends = sorted(set([last for _, last in pieces if last < end]))
    found = [(place, kinds_left(end, settings, pieces, place)) for place in ends]
    return [(place, kinds) for place, kinds in found if "none" not in kinds]


def kinds_left(end, settings, pieces, place):
    """The list of what a place before the end can be beside these pieces."""
    least, normal, greatest = settings
    kinds = list(KINDS)
    for begin, last in pieces:
        distance = place - begin
        if begin < place < last:
            gone = ("plain", "strict") if distance >= normal else ("strict",) if distance >= least else ()
            kinds = [kind for kind in kinds if kind not in gone]
        if place == last and distance < greatest and place < end:
            gone = ("none", "plain") if distance < normal else ("none",)
            kinds = [kind for kind in kinds if kind not in gone]
    return kinds
