"""Points [3], R5, [12]: what changes keep and lose, and how far behind them the cuts can differ."""

import unittest
from itertools import product
from random import Random

from cutwalks.changes import best_change, earliest_rejoin, effect, entries_behind, latest_rejoin, rejoin, worst_change
from cutwalks.errors import InvalidChange, InvalidRow, InvalidSettings, TooLarge
from cutwalks.rows import Row
from cutwalks.walks import walk
from model import (
    GREAT, NO_INTEGERS, ODD_THINGS, Slow, ascending_lists, changed_by_definition, mixed_rows, ranges_of, slow_rows,
    walk_by_definition, wrong_settings)
from rounds import Rounds, first_place, great_rows, join

EXAMPLE = Row(20, [3, 7, 8, 13], [3, 8])
SETTINGS = (2, 4, 5)
OPEN = [entries_behind, latest_rejoin, earliest_rejoin, worst_change, best_change]


def all_contents(high):
    """(marks, strict) for all kinds of the places from 1 to high."""
    for kinds in product((0, 1, 2), repeat=max(high, 0)):
        marks = [place + 1 for place, kind in enumerate(kinds) if kind]
        yield marks, [place + 1 for place, kind in enumerate(kinds) if kind == 2]


def new_walk(slow, change):
    """The walk from 0 of the changed row, by the definitions."""
    length, found = changed_by_definition(slow.length, slow.marks, slow.strict, change)
    marks = sorted(found)
    return walk_by_definition(length, marks, [mark for mark in marks if found[mark]], slow.settings, 0)


def rejoin_by_definition(slow, change):
    begin, end, length = change[:3]
    move = length - (end - begin)
    after = new_walk(slow, change)
    return min(cut for cut in slow.walks[0] if cut >= end and cut + move in after)


def pieces(cuts):
    return list(zip(cuts, cuts[1:]))


def effect_by_definition(slow, change):
    """Kept, lost and new pieces, by looking at each piece and where it stands in the changed row."""
    begin, end, length = change[:3]
    move = length - (end - begin)
    old, new = pieces(slow.walks[0]), pieces(new_walk(slow, change))
    firsts = [cut for cut in slow.walks[0] if cut <= begin and cut in new_walk(slow, change)]
    again = rejoin_by_definition(slow, change)
    kept = [piece for piece in old if piece[1] <= max(firsts)]
    assert all(piece in new for piece in kept)
    behind = [(low, high) for low, high in old if low >= again]
    assert all((low + move, high + move) in new for low, high in behind)
    before = [cut for cut in slow.walks[0] if cut < begin]
    assert before == [cut for cut in new_walk(slow, change) if cut < begin]
    kept += behind
    return len(kept), len(old) - len(kept), len(new) - len(kept)


def replacements(length, longest):
    """All begin, end and length of changes of a row."""
    for end in range(length + 1):
        for begin in range(end + 1):
            for new_cells in range(longest + 1):
                if length - (end - begin) + new_cells >= 1:
                    yield begin, end, new_cells


def contents_of(slow, begin, end, length):
    """All changes with this begin, end and length."""
    for marks, strict in all_contents(length if end < slow.length else length - 1):
        yield begin, end, length, marks, strict


class KnownChangeTest(unittest.TestCase):
    def check(self, slow, change):
        told = (slow.told, change)
        self.assertEqual(rejoin(slow.row, slow.settings, change), rejoin_by_definition(slow, change), told)
        self.assertEqual(effect(slow.row, slow.settings, change), effect_by_definition(slow, change), told)

    def test_the_example(self):
        self.assertEqual(effect(EXAMPLE, SETTINGS, (4, 6, 3, [2], [])), (4, 1, 1))
        self.assertEqual(rejoin(EXAMPLE, SETTINGS, (4, 6, 3, [2], [])), 7)

    def test_changes_at_the_begin(self):
        self.assertEqual(effect(EXAMPLE, SETTINGS, (0, 0, 0, [], [])), (5, 0, 0))
        self.assertEqual(rejoin(EXAMPLE, SETTINGS, (0, 0, 0, [], [])), 0)
        # Five cells in front: their end is a cut, so nothing is lost.
        self.assertEqual(effect(EXAMPLE, SETTINGS, (0, 0, 5, [], [])), (5, 0, 1))
        self.assertEqual(rejoin(EXAMPLE, SETTINGS, (0, 0, 5, [], [])), 0)
        self.assertEqual(effect(EXAMPLE, SETTINGS, (0, 3, 0, [], [])), (4, 1, 0))
        self.assertEqual(rejoin(EXAMPLE, SETTINGS, (0, 3, 0, [], [])), 3)
        self.assertEqual(effect(EXAMPLE, SETTINGS, (0, 3, 2, [2], [])), (0, 5, 5))
        self.assertEqual(rejoin(EXAMPLE, SETTINGS, (0, 3, 2, [2], [])), 20)

    def test_changes_at_the_end(self):
        self.assertEqual(effect(EXAMPLE, SETTINGS, (20, 20, 0, [], [])), (5, 0, 0))
        self.assertEqual(effect(EXAMPLE, SETTINGS, (20, 20, 7, [], [])), (4, 1, 2))
        self.assertEqual(rejoin(EXAMPLE, SETTINGS, (20, 20, 7, [], [])), 20)
        self.assertEqual(effect(EXAMPLE, SETTINGS, (20, 20, 2, [], [])), (4, 1, 1))
        self.assertEqual(effect(EXAMPLE, SETTINGS, (17, 20, 0, [], [])), (4, 1, 0))
        self.assertEqual(effect(EXAMPLE, SETTINGS, (16, 20, 0, [], [])), (3, 2, 1))
        # The piece from 12 to 17 comes again, but it lies over the change.
        self.assertEqual(effect(EXAMPLE, SETTINGS, (16, 17, 1, [1], [1])), (4, 1, 1))

    def test_nothing_is_taken_out(self):
        self.assertEqual(effect(EXAMPLE, SETTINGS, (7, 7, 5, [], [])), (5, 0, 1))
        self.assertEqual(effect(EXAMPLE, SETTINGS, (7, 7, 4, [4], [])), (5, 0, 1))
        self.assertEqual(effect(EXAMPLE, SETTINGS, (7, 7, 0, [], [])), (5, 0, 0))

    def test_all_is_taken_out(self):
        self.assertEqual(effect(EXAMPLE, SETTINGS, (0, 20, 1, [], [])), (0, 5, 1))
        self.assertEqual(effect(EXAMPLE, SETTINGS, (0, 20, 11, [2], [2])), (0, 5, 3))
        self.assertEqual(rejoin(EXAMPLE, SETTINGS, (0, 20, 11, [2], [2])), 20)

    def test_an_old_mark_that_comes_to_the_end(self):
        self.assertEqual(effect(EXAMPLE, SETTINGS, (13, 20, 0, [], [])), (3, 2, 1))
        self.assertEqual(effect(EXAMPLE, SETTINGS, (7, 20, 0, [], [])), (2, 3, 0))

    def test_all_changes_of_small_rows(self):
        for slow in slow_rows(4, 3):
            for begin, end, length in replacements(slow.length, 2):
                for change in contents_of(slow, begin, end, length):
                    self.check(slow, change)

    def test_changes_of_mixed_rows(self):
        for random, slow in mixed_rows(41, 400, 30):
            for _ in range(6):
                self.check(slow, some_change(random, slow))

    def test_a_changed_row_with_more_marks_than_rows_have(self):
        row = Row(900, list(range(2, 802, 2)), [])
        change = (850, 850, 100, list(range(1, 100)), [])
        with self.assertRaises(InvalidRow):
            row.changed(change)
        slow = Slow(900, row.marks, [], (5, 6, 9))
        self.check(slow, change)
        front = (0, 0, 100, list(range(1, 100)), [3, 7])
        self.check(slow, front)


def some_change(random, slow, longest=12):
    begin, end = sorted([random.randint(0, slow.length), random.randint(0, slow.length)])
    if random.random() < 0.6:
        end = min(end, begin + 3)
    length = random.randint(0 if end - begin < slow.length else 1, longest)
    high = length if end < slow.length else length - 1
    marks = sorted(random.sample(range(1, high + 1), random.randint(0, max(high, 0))))
    return begin, end, length, marks, [mark for mark in marks if random.random() < 0.5]


class OpenChangeTest(unittest.TestCase):
    def check(self, slow, begin, end, length):
        """Against all contents of the new cells."""
        told = (slow.told, begin, end, length)
        given = (slow.row, slow.settings, begin, end, length)
        firsts, found = set(), set()
        for change in contents_of(slow, begin, end, length):
            firsts.add(min(cut for cut in new_walk(slow, change) if cut >= begin + length) + end - begin - length)
            found.add(rejoin_by_definition(slow, change))
        self.assertEqual(entries_behind(*given), ranges_of(firsts), told)
        self.assertEqual(latest_rejoin(*given), max(found), told)
        self.assertEqual(earliest_rejoin(*given), min(found), told)
        for function, sought in [(worst_change, max(found)), (best_change, min(found))]:
            change = function(*given)
            self.assertEqual(change[:3], (begin, end, length), told)
            self.assertIs(type(change), tuple)
            self.assertEqual(rejoin(slow.row, slow.settings, change), sought, (told, change))
            self.assertEqual(rejoin_by_definition(slow, change), sought, (told, change))

    def test_the_example(self):
        given = (EXAMPLE, SETTINGS, 4, 6, 3)
        self.assertEqual(latest_rejoin(*given), 20)
        self.assertEqual(earliest_rejoin(*given), 7)
        self.assertEqual(entries_behind(*given), [(6, 8)])
        self.assertEqual(rejoin(EXAMPLE, SETTINGS, worst_change(*given)), 20)
        self.assertEqual(rejoin(EXAMPLE, SETTINGS, best_change(*given)), 7)

    def test_no_new_cells(self):
        self.assertEqual(entries_behind(EXAMPLE, SETTINGS, 7, 7, 0), [(7, 7)])
        self.assertEqual(entries_behind(EXAMPLE, SETTINGS, 7, 9, 0), [(9, 9)])
        self.assertEqual(entries_behind(EXAMPLE, SETTINGS, 6, 9, 0), [(11, 11)])
        self.assertEqual(entries_behind(EXAMPLE, SETTINGS, 6, 20, 0), [(20, 20)])
        self.assertEqual(worst_change(EXAMPLE, SETTINGS, 6, 9, 0), (6, 9, 0, [], []))
        self.assertEqual(best_change(EXAMPLE, SETTINGS, 6, 9, 0), (6, 9, 0, [], []))

    def test_all_small_rows(self):
        for slow in slow_rows(4, 3):
            for begin, end, length in replacements(slow.length, 3):
                self.check(slow, begin, end, length)

    def test_all_lengths_in_a_few_rows(self):
        for length, marks, strict in [(9, [], []), (9, [2, 5], [5]), (9, [3, 4, 8], [3, 4, 8]), (9, [1, 6, 7], [1])]:
            for settings in [(1, 1, 1), (1, 1, 4), (1, 3, 4), (2, 2, 2), (2, 3, 5), (3, 3, 4), (2, 2, 7), (4, 5, 12)]:
                slow = Slow(length, marks, strict, settings)
                for begin, end, new_cells in replacements(length, 4):
                    self.check(slow, begin, end, new_cells)

    def test_several_cuts_in_the_new_cells(self):
        for length, marks, strict in [(6, [], []), (9, [3, 4, 8], [3]), (14, [5, 11], [5, 11])]:
            for settings in [(1, 1, 5), (1, 2, 3), (2, 2, 5), (2, 4, 5), (3, 3, 4), (3, 4, 4), (4, 4, 6)]:
                slow = Slow(length, marks, strict, settings)
                for begin, end in [(0, 0), (2, 2), (0, length), (3, 5), (6, 6)]:
                    for new_cells in [7, 8, 9, 10, 11]:
                        self.check_by_strict_marks(slow, begin, end, new_cells)

    def check_by_strict_marks(self, slow, begin, end, length):
        """Against all contents with strict marks and none."""
        given = (slow.row, slow.settings, begin, end, length)
        told = given[1:] + slow.told
        firsts, found = set(), set()
        for marks in ascending_lists(1, length if end < slow.length else length - 1):
            change = (begin, end, length, marks, marks)
            cut = min(cut for cut in new_walk(slow, change) if cut >= begin + length) + end - begin - length
            firsts.add(cut)
            found.add(slow.meeting(slow.first_from(0, end), cut))
        self.assertEqual(entries_behind(*given), ranges_of(firsts), told)
        self.assertEqual((latest_rejoin(*given), earliest_rejoin(*given)), (max(found), min(found)), told)
        self.assertEqual(rejoin(*given[:2], worst_change(*given)), max(found), told)
        self.assertEqual(rejoin(*given[:2], best_change(*given)), min(found), told)

    def test_mixed_rows(self):
        for random, slow in mixed_rows(42, 250, 30):
            for _ in range(3):
                begin, end, length = some_change(random, slow, 6)[:3]
                self.check(slow, begin, end, length)

    def test_told_changes_stand_alone(self):
        for function in [worst_change, best_change]:
            first = function(EXAMPLE, SETTINGS, 4, 6, 9)
            second = function(EXAMPLE, SETTINGS, 4, 6, 9)
            self.assertEqual(first, second)
            self.assertIsNot(first[3], second[3])
            self.assertIsNot(first[3], first[4])
            self.assertGreater(len(first[3]), 0)
            first[3].append(0)
            first[4].clear()
            self.assertEqual(function(EXAMPLE, SETTINGS, 4, 6, 9), second)
        ranges = entries_behind(EXAMPLE, SETTINGS, 4, 6, 9)
        ranges.clear()
        self.assertEqual(entries_behind(EXAMPLE, SETTINGS, 4, 6, 9), [(6, 8)])


class GreatChangeTest(unittest.TestCase):
    def some_replacement(self, random, rounds):
        """Begin, end and length, so that the changed row is not too long."""
        length, least = rounds.length, rounds.settings[0]
        begin = random.choice([0, length, random.randint(0, length)] + rounds.marks + rounds.walk(0))
        end = min(length, begin + random.choice([0, 1, random.randint(0, 3 * least), random.randint(0, length)]))
        most = 200 * least - length + (end - begin)
        cells = random.choice([0, 1, random.randint(0, 3 * least), random.randint(0, 40 * least), most])
        return begin, end, max(min(cells, most), 1 if end - begin == length else 0)

    def reaches(self, rounds, bare, begin, end, length, entry):
        """Whether the walk from 0 can have this old place as its first cut from end on, going back from there."""
        top, last = begin + length, begin + length - (1 if end == rounds.length else 0)
        greatest, least = rounds.settings[2], rounds.settings[0]
        fixed = max(cut for cut in bare.walk(0) if cut <= begin)
        cut = entry - end + top
        origins = [(cut, cut)] if cut == top and (last == top or fixed == top) else []
        low = first_place(lambda place: bare.next(place, bare.marks) >= cut, last - greatest + 1, top)
        high = first_place(lambda place: bare.next(place, bare.marks) > cut, low, top) - 1
        if low <= high:
            origins.append((low, high))
        for low, high in origins:
            while high > begin and low <= high:
                if low <= fixed <= high:
                    return True
                # Cuts in the new cells stand wherever they are not too near or too far.
                low, high = max(low, begin + 1) - greatest, high - least
            if low <= fixed <= high:
                return True
        return False

    def test_entries_and_rejoins(self):
        for random, rounds in great_rows(43, 150):
            for _ in range(4):
                begin, end, length = self.some_replacement(random, rounds)
                self.check(random, rounds, begin, end, length)

    def check(self, random, rounds, begin, end, length):
        given = (rounds.row, rounds.settings, begin, end, length)
        told = (rounds.told, begin, end, length)
        new_length, found = changed_by_definition(rounds.length, rounds.marks, rounds.strict, given[2:] + ([], []))
        marks = sorted(found)
        bare = Rounds(Row(new_length, marks, [mark for mark in marks if found[mark]]), rounds.settings)
        ranges = entries_behind(*given)
        self.assertEqual(ranges, join(ranges), told)
        for low, high in ranges:
            for entry in [low - 1, low, random.randint(low, high), high, high + 1]:
                is_told = any(first <= entry <= last for first, last in ranges)
                if end <= entry <= rounds.length:
                    self.assertIs(self.reaches(rounds, bare, begin, end, length, entry), is_told, (told, entry))
        cuts = [cut for cut in rounds.walk(0) if cut >= end]
        self.assertEqual(latest_rejoin(*given), common(rounds, cuts, ranges), told)
        self.assertEqual(earliest_rejoin(*given), first_shared(rounds, cuts, ranges), told)
        for function, sought in [(worst_change, latest_rejoin), (best_change, earliest_rejoin)]:
            change = function(*given)
            self.assertEqual(change[:3], (begin, end, length), told)
            self.assertEqual(rejoin(rounds.row, rounds.settings, change), sought(*given), (told, change))
            self.check_known(rounds, change)

    def check_known(self, rounds, change):
        begin, end, length, marks, strict = change
        told = (rounds.told, change)
        new_length, found = changed_by_definition(rounds.length, rounds.marks, rounds.strict, change)
        marks = sorted(found)
        after = walk_by_definition(new_length, marks, [mark for mark in marks if found[mark]], rounds.settings, 0)
        old = rounds.walk(0)
        move = length - (end - begin)
        again = min(cut for cut in old if cut >= end and cut + move in after)
        self.assertEqual(rejoin(rounds.row, rounds.settings, change), again, told)
        both = len([cut for cut in old if cut <= begin and cut in after]) - 1 + len([cut for cut in old if cut > again])
        expected = (both, len(old) - 1 - both, len(after) - 1 - both)
        self.assertEqual(effect(rounds.row, rounds.settings, change), expected, told)

    def test_changes_with_marks(self):
        for random, rounds in great_rows(44, 150):
            for _ in range(4):
                begin, end, length = self.some_replacement(random, rounds)
                high = length if end < rounds.length else length - 1
                marks = sorted({random.randint(1, high) for _ in range(random.randint(0, 30))} if high > 0 else [])
                strict = [mark for mark in marks if random.random() < 0.5]
                self.check_known(rounds, (begin, end, length, marks, strict))

    def test_four_hundred_marks_and_all_lengths(self):
        random = Random(45)
        least = GREAT // 200 + 1
        marks = sorted(random.sample(range(1, 10 ** 9), 400))
        row = Row(GREAT, [mark * 10 ** 21 for mark in marks], [mark * 10 ** 21 for mark in marks[::2]])
        for settings in [(least, least, least), (least, least, 2 * least), (least, GREAT, GREAT), (least, least + 9, GREAT)]:
            rounds = Rounds(row, settings)
            for begin, end, length in [(0, 0, 0), (GREAT // 2, GREAT // 2 + 5, 5), (5, GREAT - 5, GREAT - 10)]:
                self.check(random, rounds, begin, end, length)
            self.check(random, rounds, 0, GREAT, 200 * least)

    def test_bare_rows(self):
        given = (Row(200, [], []), (1, 1, GREAT), 0, 100, 100)
        self.assertEqual(entries_behind(*given), [(100, 100), (200, 200)])
        self.assertEqual(earliest_rejoin(*given), 200)
        given = (Row(10 ** 29, [], []), (10 ** 29, 10 ** 29, GREAT), 5, 6, 10 ** 28)
        self.assertEqual(entries_behind(*given), [(10 ** 29, 10 ** 29)])


def common(rounds, cuts, ranges):
    """The first of the cuts that the walks from all places of ranges have."""
    for cut in cuts:
        if cut >= ranges[-1][1] and rounds.first_cuts(ranges, cut) == [(cut, cut)]:
            return cut
    return None


def first_shared(rounds, cuts, ranges):
    """The first of the cuts that the walk from some place of ranges has."""
    for cut in cuts:
        near = [(low, min(high, cut)) for low, high in ranges if low <= cut]
        if any(low <= cut <= high for low, high in rounds.first_cuts(near, cut)):
            return cut
    return None


class ArgumentsTest(unittest.TestCase):
    def test_changes_that_are_any_object(self):
        wrong = ODD_THINGS + [0, 5, [], (), [4, 6, 3, [2], []], (4, 6, 3, [2]), (4, 6, 3, [2], [], []), ((4, 6, 3, [2], []),)]
        for thing in NO_INTEGERS:
            wrong += [(thing, 6, 3, [2], []), (4, thing, 3, [2], []), (4, 6, thing, [2], []), (4, 6, 3, [thing], [])]
            wrong += [(4, 6, 3, [2], [thing])] + [(4, 6, 3, thing, []), (4, 6, 3, [2], thing)] * (thing not in ([], [1]))
        wrong += [(6, 4, 3, [], []), (-1, 6, 3, [], []), (4, 21, 3, [], []), (4, 6, -1, [], []), (0, 20, 0, [], [])]
        wrong += [(4, 6, 3, [0], []), (4, 6, 3, [4], []), (4, 6, 3, [2, 2], []), (4, 6, 3, [3, 2], []), (4, 6, 3, [2], [3])]
        wrong += [(4, 20, 3, [3], []), (20, 20, 3, [3], []), (4, 6, 500, list(range(1, 402)), []), (4, 6, 0, [0], [])]
        wrong += [(True, 6, 3, [], []), (False, 6, 3, [], []), (4, 6, True, [], []), (4, 6, 3, [True], []), (4, 6, 3, [1], [True])]
        for function in [rejoin, effect]:
            for change in wrong:
                with self.assertRaises(InvalidChange, msg=repr(change)):
                    function(EXAMPLE, SETTINGS, change)
            for change in [(4, 6, 3, [3], [3]), (4, 20, 3, [2], []), (0, 0, 0, [], []), (4, 6, 394, list(range(1, 395)), [])]:
                settings = SETTINGS if change[2] < 300 else (4, 4, 5)
                function(EXAMPLE, settings, change)
            function(Row(20, [], []), (5, 5, 5), (4, 6, 400, list(range(1, 401)), []))

    def test_begin_end_and_length_that_are_no_change(self):
        wrong = [(6, 4, 3), (-1, 6, 3), (4, 21, 3), (21, 21, 3), (4, 6, -1), (0, 20, 0), (0, 20, -1), (-1, -1, 3)]
        wrong += [(-GREAT, 6, 3), (4, GREAT, 3), (GREAT, GREAT, 0), (4, 6, -GREAT), (5, 4, 0)]
        for function in OPEN:
            for begin, end, length in wrong:
                with self.assertRaises(InvalidChange, msg=repr((begin, end, length))):
                    function(EXAMPLE, SETTINGS, begin, end, length)
            for begin, end, length in [(0, 0, 0), (20, 20, 0), (0, 20, 1), (0, 19, 0), (1, 20, 0), (0, 0, 9)]:
                function(EXAMPLE, SETTINGS, begin, end, length)
            for thing in [True, False]:
                for begin, end, length in [(thing, 6, 3), (0, thing, 3), (4, 6, thing)]:
                    with self.assertRaises(InvalidChange):
                        function(EXAMPLE, SETTINGS, begin, end, length)

    def test_settings_come_first(self):
        for settings in wrong_settings():
            for function in [rejoin, effect]:
                with self.assertRaises(InvalidSettings):
                    function(Row(500, [], []), settings, None)
            for function in OPEN:
                with self.assertRaises(InvalidSettings):
                    function(Row(500, [], []), settings, 6, 4, -1)

    def test_too_large_comes_last(self):
        long = Row(401, [], [])
        for function in [rejoin, effect]:
            with self.assertRaises(InvalidChange):
                function(long, SETTINGS, (6, 4, 3, [], []))
            for change in [(0, 0, 0, [], []), (0, 401, 5, [], []), (0, 1, 0, [], [])]:
                with self.assertRaises(TooLarge):
                    function(long, SETTINGS, change)
        for function in OPEN:
            with self.assertRaises(InvalidChange):
                function(long, SETTINGS, 4, 6, -1)
            for begin, end, length in [(0, 0, 0), (0, 401, 5), (0, 1, 0)]:
                with self.assertRaises(TooLarge):
                    function(long, SETTINGS, begin, end, length)

    def test_two_hundred_times_least(self):
        for least in [1, 2, 7, 10 ** 27]:
            row = Row(100 * least, [], [])
            for settings in [(least, least, least), (least, 2 * least, 3 * least), (least, GREAT, GREAT)]:
                for begin, end in [(0, 0), (50, 50), (0, 7), (60, 100 * least), (0, 100 * least)]:
                    most = 100 * least + (end - begin)
                    for function in [rejoin, effect]:
                        function(row, settings, (begin, end, most, [], []))
                        with self.assertRaises(TooLarge):
                            function(row, settings, (begin, end, most + 1, [], []))
                        with self.assertRaises(TooLarge):
                            function(row, settings, (begin, end, GREAT + 10 ** 29, [1], [1]))
                    for function in OPEN:
                        function(row, settings, begin, end, most)
                        with self.assertRaises(TooLarge):
                            function(row, settings, begin, end, most + 1)
                        with self.assertRaises(TooLarge):
                            function(row, settings, begin, end, GREAT + 10 ** 29)

    def test_arguments_by_name_and_unchanged(self):
        change = (4, 6, 3, [2], [])
        for function in [rejoin, effect]:
            told = function(EXAMPLE, SETTINGS, change)
            self.assertEqual(function(change=change, settings=SETTINGS, row=EXAMPLE), told)
            self.assertEqual(change, (4, 6, 3, [2], []))
        for function in OPEN:
            told = function(EXAMPLE, SETTINGS, 4, 6, 3)
            self.assertEqual(function(length=3, end=6, begin=4, settings=SETTINGS, row=EXAMPLE), told)
        self.assertEqual(EXAMPLE, Row(20, [3, 7, 8, 13], [3, 8]))

    def test_kinds_of_results(self):
        self.assertIs(type(rejoin(EXAMPLE, SETTINGS, (4, 6, 3, [2], []))), int)
        self.assertIs(type(effect(EXAMPLE, SETTINGS, (4, 6, 3, [2], []))), tuple)
        self.assertIs(type(entries_behind(EXAMPLE, SETTINGS, 4, 6, 3)), list)
        self.assertTrue(all(type(pair) is tuple for pair in entries_behind(EXAMPLE, SETTINGS, 4, 6, 3)))

    def test_the_walks_by_the_interface(self):
        change = (4, 6, 3, [2], [])
        self.assertEqual(walk(EXAMPLE, SETTINGS, 0), [0, 3, 7, 12, 17, 20])
        self.assertEqual(walk(EXAMPLE.changed(change), SETTINGS, 0), [0, 3, 8, 13, 18, 21])


if __name__ == "__main__":
    unittest.main()
