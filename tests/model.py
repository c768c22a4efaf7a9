"""The definitions of the document, word by word and slowly, and values that tests share."""

from itertools import product
from random import Random

from cutwalks.errors import CutError, InvalidPlace
from cutwalks.rows import Row

GREAT = 10 ** 30 - 1

# One of each kind of "any object" that is neither a list nor a tuple nor an integer.
ODD_THINGS = [
    None, True, False, "", "3", "1-2-3", {}, {"a": [1]}, Row(3, [1], []), Row(1, [], []),
    CutError("x"), InvalidPlace("x"),
]

# What is no integer, to stand in lists and tuples.
NO_INTEGERS = [
    None, True, False, "", "1", [], [1], (), (1,), {}, {"a": 1}, Row(3, [1], []), CutError("x"),
]


def serves(marks, strict, settings, place, mark):
    least, normal, greatest = settings
    low = least if mark in strict else normal
    return mark in marks and place + low <= mark <= place + greatest


def next_by_definition(length, marks, strict, settings, place):
    for mark in marks:
        if serves(marks, strict, settings, place, mark):
            return mark
    return min(place + settings[2], length)


def walk_by_definition(length, marks, strict, settings, start):
    cuts = [start]
    while cuts[-1] != length:
        cuts.append(next_by_definition(length, marks, strict, settings, cuts[-1]))
    return cuts


def changed_by_definition(length, marks, strict, change):
    """The length and the dict of the marks, place to strength, of the changed row."""
    begin, end, new_cells, new_marks, new_strict = change
    move = new_cells - (end - begin)
    found = {}
    for mark in marks:
        if mark <= begin:
            found[mark] = mark in strict
        elif mark > end:
            found[mark + move] = mark in strict
    for mark in new_marks:
        found[begin + mark] = mark in new_strict
    found.pop(length + move, None)
    return length + move, found


def small_rows(longest):
    """All (length, marks, strict) with a length up to longest."""
    for length in range(1, longest + 1):
        for kinds in product((0, 1, 2), repeat=length - 1):
            marks = [place + 1 for place, kind in enumerate(kinds) if kind]
            strict = [place + 1 for place, kind in enumerate(kinds) if kind == 2]
            yield length, marks, strict


def small_settings(highest):
    for least in range(1, highest + 1):
        for normal in range(least, highest + 1):
            for greatest in range(normal, highest + 1):
                yield least, normal, greatest


def ascending_lists(low, high):
    """All ascending lists of places from low to high."""
    places = range(low, high + 1)
    for chosen in product((False, True), repeat=len(places)):
        yield [place for place, is_in in zip(places, chosen) if is_in]


def wrong_lists(low, high):
    """Any objects that are no lists of integers from low to high; low itself is one."""
    wrong = ODD_THINGS + [0, 1, -1, low, high, (), (low,), (low, high)]
    wrong += [[thing] for thing in NO_INTEGERS]
    wrong += [[low, thing] for thing in NO_INTEGERS]
    wrong += [[thing, low] for thing in NO_INTEGERS]
    wrong += [[low - 1], [high + 1], [low, high + 1], [low - 1, low], [GREAT], [-GREAT]]
    return wrong


def wrong_settings():
    """Any objects that are no settings."""
    wrong = ODD_THINGS + [0, 1, 2, (), (2,), (2, 4), (2, 4, 5, 6), [], [2, 4, 5], [(2, 4, 5)], ((2, 4, 5),)]
    for thing in NO_INTEGERS:
        wrong += [(thing, 4, 5), (2, thing, 5), (2, 4, thing)]
    wrong += [(0, 4, 5), (-1, 4, 5), (0, 0, 0), (-2, -1, 5), (3, 2, 5), (2, 5, 4), (5, 4, 2), (6, 4, 5)]
    wrong += [(GREAT, GREAT - 1, GREAT), (GREAT, GREAT, GREAT - 1), (-GREAT, 1, 2)]
    # Booleans that would pass if they counted as the integers 0 and 1.
    wrong += [(True, True, True), (True, 1, 1), (1, True, 1), (1, 1, True), (True, 4, 5)]
    return wrong


def wrong_ranges(end):
    """Any objects that are no ranges of places of a row of this length, which is 12 at least."""
    wrong = ODD_THINGS + [0, 1, end, [], (), (0, 2), ((0, 2),), ((0, 2), (4, 6)), {"a": (0, 2)}]
    for thing in NO_INTEGERS + [0, 1, [0, 2], (0,), (0, 1, 2), (0, 2, 4, 6), ((0, 2), (4, 6)), [(0, 2)]]:
        wrong += [[thing], [(0, 2), thing], [thing, (4, 6)]]
    for thing in NO_INTEGERS:
        wrong += [[(thing, 6)], [(0, thing)], [(0, 2), (thing, 6)], [(0, 2), (4, thing)], [(thing, thing)]]
    # Booleans that would pass if they counted as the integers 0 and 1.
    wrong += [[(False, 1)], [(0, True)], [(True, True)], [(False, False), (3, 4)], [(False, 1), (3, 4)]]
    # Ranges that go down, overlap, touch, or stand in the wrong order.
    wrong += [[(2, 1)], [(0, 2), (6, 5)], [(5, 4), (6, 8)], [(0, 4), (4, 6)], [(0, 4), (3, 6)], [(0, 8), (2, 4)]]
    wrong += [[(0, 2), (3, 6)], [(0, 0), (1, 1)], [(4, 6), (0, 2)], [(0, 2), (0, 2)], [(0, 2), (4, 6), (7, 9)]]
    wrong += [[(-1, 2)], [(-1, -1)], [(-3, -2), (0, 2)], [(0, end + 1)], [(end + 1, end + 1)], [(0, 2), (4, end + 1)]]
    wrong += [[(0, 2), (end + 1, end + 1)], [(-GREAT, 2)], [(0, GREAT)], [(GREAT, GREAT)]]
    return wrong


def ranges_of(places):
    """The ranges of some places, found place by place."""
    found = []
    for place in sorted(set(places)):
        if found and found[-1][1] == place - 1:
            found[-1] = (found[-1][0], place)
        else:
            found.append((place, place))
    return found


def places_of(ranges):
    return [place for low, high in ranges for place in range(low, high + 1)]


class Slow:
    """A small row and settings, with all walks by the definitions."""

    def __init__(self, length, marks, strict, settings):
        self.length, self.marks, self.strict, self.settings = length, marks, strict, settings
        self.row = Row(length, marks, strict)
        self.next = [next_by_definition(length, marks, strict, settings, place) for place in range(length)]
        self.walks = [[length]]
        for place in reversed(range(length)):
            self.walks.insert(0, [place] + self.walks[self.next[place] - place - 1])
        self.told = (length, marks, strict, settings)

    def first_from(self, start, place):
        return min(cut for cut in self.walks[start] if cut >= place)

    def meeting(self, first, second):
        return min(cut for cut in self.walks[first] if cut in self.walks[second])

    def common(self, starts):
        """The first cut that all these walks have."""
        return min(cut for cut in self.walks[starts[0]] if all(cut in self.walks[start] for start in starts))

    def entries(self, place):
        """The entries as R2 tells them."""
        behind = [mark for mark in self.marks if mark > place]
        found = [place]
        for before in range(place - self.settings[2] + 1, place):
            found.append(next_by_definition(self.length, behind, self.strict, self.settings, before))
        return sorted(set(found))

    def cut(self, start, k):
        """The k-th cut of the walk from start."""
        return self.walks[start][min(k, len(self.walks[start]) - 1)]

    def is_paper(self, place, entry, k):
        found = self.entries(place)
        if entry not in found or k < 0:
            return False
        after = min([other for other in found if other > entry], default=self.next[place])
        return self.cut(entry, k) == self.cut(place, k) and self.cut(after, k) == self.cut(place, k + 1)


def slow_rows(longest, highest):
    """All small rows with all small settings."""
    for length, marks, strict in small_rows(longest):
        for settings in small_settings(highest):
            yield Slow(length, marks, strict, settings)


def some_settings(random, least):
    """Settings, often with numbers that are equal or neighbours."""
    normal = least + random.choice([0, 1, least // 3, random.randint(0, least), random.randint(0, 3 * least)])
    greatest = normal + random.choice([0, 1, 2, least // 4, random.randint(0, least), random.randint(0, 4 * least)])
    return least, normal, greatest


def some_row(random, settings, length, many):
    """A row with at most this many marks at, beside and between the cuts of its walks."""
    least, normal, greatest = settings
    places, at = set(), random.randint(0, greatest)
    while at < length and len(places) < many:
        places.add(at)
        piece = random.choice([least, normal, greatest, random.randint(least, greatest), random.randint(1, 2 * greatest)])
        at += max(1, piece + random.choice([-1, 0, 0, 0, 1]))
        if random.random() < 0.3:
            places.add(at - random.randint(1, greatest))
        if random.random() < 0.2:
            places.add(at - 1)
    marks = sorted(place for place in places if 0 < place < length)[:many]
    firm = random.choice([0, 0.2, 0.5, 0.8, 1])
    return Row(length, marks, [mark for mark in marks if random.random() < firm])


def mixed_rows(seed, many, longest):
    """Rows too long to try all of them, with marks at, beside and between cuts, and the random source for more."""
    random = Random(seed)
    for _ in range(many):
        settings = some_settings(random, random.randint(1, 9))
        length = random.randint(1, longest)
        row = some_row(random, settings, length, longest // 2)
        yield random, Slow(length, row.marks, row.strict, settings)


def parts(length):
    """All sets of one place or more of a row, as lists."""
    for number in range(1, 2 ** (length + 1)):
        yield [place for place in range(length + 1) if number >> place & 1]
