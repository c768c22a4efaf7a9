"""A second way of working answers out for rows of great lengths.

It knows next cuts by the definition, and that between the places where a mark (or the end) comes into reach or goes
out of it, next cuts either stay the same or grow one by one. It follows all starts in rounds.
"""

from bisect import bisect_left, bisect_right
from random import Random

from model import some_row, some_settings


class Rounds:
    """A row of any length and settings, followed in rounds."""

    def __init__(self, row, settings):
        self.row, self.settings, self.length = row, settings, row.length
        self.marks, self.strict = row.marks, set(row.strict)
        self.turns = self.find_turns(self.marks)
        self.told = (row.length, row.marks, row.strict, settings)

    def find_turns(self, marks):
        """All places that may begin something new, because what serves them is not what serves the place before."""
        least, normal, greatest = self.settings
        found = {self.length - greatest, self.length - greatest + 1}
        for mark in marks:
            for reach in self.settings:
                found |= {mark - reach, mark - reach + 1}
        return sorted(found)

    def next(self, place, marks):
        least, normal, greatest = self.settings
        for mark in marks[bisect_left(marks, place + least):bisect_right(marks, place + greatest)]:
            if mark in self.strict or mark >= place + normal:
                return mark
        return min(place + greatest, self.length)

    def walk(self, start):
        cuts = [start]
        while cuts[-1] < self.length:
            cuts.append(self.next(cuts[-1], self.marks))
        return cuts

    def image(self, pairs, marks=None):
        marks = self.marks if marks is None else marks
        found = []
        for low, high in pairs:
            high = min(high, self.length - 1)
            begins = [low] + self.turns[bisect_right(self.turns, low):bisect_right(self.turns, high)]
            for begin, end in zip(begins, [turn - 1 for turn in begins[1:]] + [high]):
                if begin <= end:
                    first, last = self.next(begin, marks), self.next(end, marks)
                    assert last - first in (0, end - begin)
                    found.append((first, last))
        return join(found)

    def first_cuts(self, pairs, place):
        found = []
        while pairs:
            found += [(max(low, place), high) for low, high in pairs if high >= place]
            pairs = self.image([(low, min(high, place - 1)) for low, high in pairs if low < place])
        return join(found)

    def entries(self, place):
        behind = [mark for mark in self.marks if mark > place]
        return join([(place, place)] + self.image([(place - self.settings[2] + 1, place - 1)], behind))

    def common(self, pairs):
        """The first cut that all walks from these places have."""
        for cut in self.walk(pairs[0][0]):
            if cut >= pairs[-1][1]:
                pairs = self.first_cuts(pairs, cut)
                if pairs == [(cut, cut)]:
                    return cut
        return None

    def paper(self, place):
        """The k of the least paper: the first one for which the k-th cuts are a k-th and a next one of the walk."""
        cuts = self.walk(place)
        pairs = self.entries(place)
        for k, cut in enumerate(cuts):
            after = cuts[min(k + 1, len(cuts) - 1)]
            if set(pairs) <= {(cut, cut), (after, after), (cut, after)} and count(pairs) <= 2:
                return k
            is_ended = pairs[-1][1] == self.length
            pairs = join(self.image(pairs) + [(self.length, self.length)] * is_ended)
        return None


def join(pairs):
    found = []
    for low, high in sorted(pairs):
        if found and low <= found[-1][1] + 1:
            low, high = found[-1][0], max(high, found[-1][1])
            found.pop()
        found.append((low, high))
    return found


def count(pairs):
    return sum(high - low + 1 for low, high in pairs)


def outside(pairs, last):
    """The ranges of the places up to last that are in none of the pairs."""
    found, place = [], 0
    for low, high in pairs:
        if low > place:
            found.append((place, low - 1))
        place = high + 1
    return found + ([(place, last)] if place <= last else [])


def from_place(pairs, place):
    return [(max(low, place), high) for low, high in pairs if high >= place]


def great_rows(seed, many, pieces=25, marks=60):
    random = Random(seed)
    for _ in range(many):
        settings = some_settings(random, random.randint(1, 10 ** random.choice([2, 9, 18, 26])))
        length = random.randint(1, pieces * settings[0])
        yield random, Rounds(some_row(random, settings, length, marks), settings)


def some_places(random, rounds, many):
    """Places at, beside and between marks, and cuts of walks."""
    found = [0, rounds.length - 1, random.randint(0, rounds.length)]
    for mark in random.sample(rounds.marks, min(many, len(rounds.marks))):
        found.append(mark + random.choice([-1, 0, 0, 1, -random.choice(rounds.settings), random.randint(0, rounds.settings[2])]))
    found += random.choices(rounds.walk(random.choice(found[2:]) % (rounds.length + 1)), k=2)
    return [place for place in found if 0 <= place <= rounds.length]


def some_ranges(random, rounds):
    ends = sorted(some_places(random, rounds, 6))
    return join([(low, high) for low, high in zip(ends[::2], ends[1::2])] or [(0, 0)])


def first_place(holds, low, high):
    """The first place from low on at which holds is true, at most high."""
    while low < high:
        middle = (low + high) // 2
        if holds(middle):
            high = middle
        else:
            low = middle + 1
    return low
