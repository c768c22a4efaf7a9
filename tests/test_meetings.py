"""Points [2], [3], [4] (R1 to R3) and [9]: entries, meetings, sure cuts and papers."""

import unittest
from itertools import product

from cutwalks.meetings import apart, entries, last_apart, meeting, meeting_paper, shows_meeting, sure_cut
from cutwalks.rows import Row
from model import GREAT, NO_INTEGERS, ODD_THINGS, Slow, mixed_rows, next_by_definition, ranges_of
from model import slow_rows, small_rows, small_settings

EXAMPLE = Row(20, [3, 7, 8, 13], [3, 8])
SETTINGS = (2, 4, 5)


def entries_by_contents(length, marks, strict, settings):
    """The entries at 0, by all contents before it, with 0 a mark of each kind or none."""
    found = {0}
    for before in range(1, settings[2] + 2):
        moved = [mark + before for mark in marks]
        firm = [mark + before for mark in strict]
        for kinds in product((0, 1, 2), repeat=before):
            new = [place for place, kind in enumerate(kinds, 1) if kind]
            new_firm = [place for place, kind in enumerate(kinds, 1) if kind == 2]
            cut = 0
            while cut < before:
                cut = next_by_definition(length + before, new + moved, new_firm + firm, settings, cut)
            found.add(cut - before)
    return sorted(found)


class EntriesTest(unittest.TestCase):
    def test_the_example(self):
        self.assertEqual(entries(EXAMPLE, SETTINGS, 4), [(4, 7)])
        # From 6 on: 7 is for 2 and 3, 8 for 4 and 5; from 8 on 9 to 12, and 13 for none of 4 to 7.
        self.assertEqual(entries(EXAMPLE, SETTINGS, 6), [(6, 8)])
        self.assertEqual(entries(EXAMPLE, SETTINGS, 8), [(8, 12)])
        self.assertEqual(entries(EXAMPLE, SETTINGS, 0), [(0, 3)])
        self.assertEqual(entries(EXAMPLE, SETTINGS, 9), [(9, 13)])

    def test_marks_that_leave_gaps(self):
        # From 10 on with the mark 12: it serves 7 to 9, but 6 goes on to 11.
        self.assertEqual(entries(Row(40, [12], [12]), SETTINGS, 10), [(10, 12)])
        self.assertEqual(entries(Row(40, [11], [11]), SETTINGS, 10), [(10, 11)])
        self.assertEqual(entries(Row(40, [11], []), SETTINGS, 10), [(10, 11), (13, 14)])
        self.assertEqual(entries(Row(40, [12], []), SETTINGS, 10), [(10, 12), (14, 14)])
        self.assertEqual(entries(Row(40, [13], [13]), SETTINGS, 10), [(10, 13)])
        self.assertEqual(entries(Row(40, [11], [11]), (4, 4, 9), 10), [(10, 11), (17, 18)])

    def test_whether_the_place_is_a_mark_is_open(self):
        for strict in [[], [10]]:
            self.assertEqual(entries(Row(40, [10], strict), SETTINGS, 10), [(10, 14)])
        self.assertEqual(entries(Row(40, [9, 10], [9, 10]), SETTINGS, 10), [(10, 14)])
        self.assertEqual(entries(Row(40, [3, 7, 9], [3, 7]), SETTINGS, 10), entries(Row(40, [], []), SETTINGS, 10))

    def test_the_first_and_the_last_place(self):
        self.assertEqual(entries(Row(20, [], []), SETTINGS, 0), [(0, 4)])
        self.assertEqual(entries(EXAMPLE, SETTINGS, 19), [(19, 20)])
        self.assertEqual(entries(EXAMPLE, SETTINGS, 17), [(17, 20)])
        self.assertEqual(entries(EXAMPLE, SETTINGS, 16), [(16, 20)])
        self.assertEqual(entries(EXAMPLE, SETTINGS, 15), [(15, 19)])
        self.assertEqual(entries(Row(1, [], []), (1, 2, 2), 0), [(0, 1)])

    def test_a_greatest_of_one(self):
        for place in range(20):
            self.assertEqual(entries(EXAMPLE, (1, 1, 1), place), [(place, place)])

    def test_a_greatest_longer_than_the_row(self):
        self.assertEqual(entries(Row(3, [], []), (2, 4, 5), 0), [(0, 3)])
        self.assertEqual(entries(Row(3, [], []), (2, 4, 100), 2), [(2, 3)])
        self.assertEqual(entries(Row(10, [4], [4]), (2, 50, 100), 3), [(3, 4)])
        # The mark is too near for the places from -1 to 2, which go on to the end.
        self.assertEqual(entries(Row(10, [4], [4]), (6, 50, 100), 3), [(3, 4), (10, 10)])
        self.assertEqual(entries(Row(10, [4], []), (2, 50, 100), 3), [(3, 4), (10, 10)])
        self.assertEqual(entries(Row(10, [4, 6], [6]), (2, 50, 100), 3), [(3, 4), (6, 6)])
        self.assertEqual(entries(Row(10, [4, 6], []), (2, 50, 52), 3), [(3, 4), (6, 6), (9, 10)])

    def test_small_rows_by_all_contents(self):
        # What stands behind the place decides, so the place is taken as the begin of a row.
        for length, marks, strict in small_rows(4):
            for settings in small_settings(4):
                expected = ranges_of(entries_by_contents(length, marks, strict, settings))
                self.assertEqual(entries(Row(length, marks, strict), settings, 0), expected, (length, marks, strict, settings))

    def test_small_rows_by_all_contents_with_something_before(self):
        for slow in slow_rows(4, 3):
            for place in range(1, slow.length):
                marks = [mark - place for mark in slow.marks if mark > place]
                strict = [mark - place for mark in slow.strict if mark > place]
                found = entries_by_contents(slow.length - place, marks, strict, slow.settings)
                expected = ranges_of(entry + place for entry in found)
                self.assertEqual(entries(slow.row, slow.settings, place), expected, (slow.told, place))

    def test_small_rows_by_the_result(self):
        for slow in slow_rows(6, 5):
            for place in range(slow.length):
                expected = ranges_of(slow.entries(place))
                self.assertEqual(entries(slow.row, slow.settings, place), expected, (slow.told, place))

    def test_mixed_rows_by_the_result(self):
        for _, slow in mixed_rows(1, 250, 90):
            for place in range(slow.length):
                expected = ranges_of(slow.entries(place))
                self.assertEqual(entries(slow.row, slow.settings, place), expected, (slow.told, place))


class MeetingTest(unittest.TestCase):
    def test_the_example(self):
        self.assertEqual(meeting(EXAMPLE, SETTINGS, 0, 4), 20)
        self.assertEqual(meeting(EXAMPLE, SETTINGS, 4, 6), 8)
        self.assertEqual(meeting(EXAMPLE, SETTINGS, 0, 2), 7)
        self.assertEqual(meeting(EXAMPLE, SETTINGS, 0, 1), 3)

    def test_a_start_is_a_cut_of_its_own_walk(self):
        self.assertEqual(meeting(EXAMPLE, SETTINGS, 4, 4), 4)
        self.assertEqual(meeting(EXAMPLE, SETTINGS, 4, 8), 8)
        self.assertEqual(meeting(EXAMPLE, SETTINGS, 13, 4), 13)
        self.assertEqual(meeting(EXAMPLE, SETTINGS, 0, 17), 17)

    def test_the_end(self):
        self.assertEqual(meeting(EXAMPLE, SETTINGS, 4, 20), 20)
        self.assertEqual(meeting(EXAMPLE, SETTINGS, 20, 4), 20)
        self.assertEqual(meeting(EXAMPLE, SETTINGS, 20, 20), 20)
        self.assertEqual(meeting(EXAMPLE, SETTINGS, 17, 18), 20)

    def test_small_rows_walk_by_walk(self):
        for slow in slow_rows(5, 4):
            for first in range(slow.length + 1):
                for second in range(slow.length + 1):
                    told = meeting(slow.row, slow.settings, first, second)
                    self.assertEqual(told, slow.meeting(first, second), (slow.told, first, second))

    def test_mixed_rows_walk_by_walk(self):
        for random, slow in mixed_rows(2, 300, 90):
            for _ in range(20):
                first, second = random.randint(0, slow.length), random.randint(0, slow.length)
                expected = slow.meeting(first, second)
                self.assertEqual(meeting(slow.row, slow.settings, first, second), expected, (slow.told, first, second))
                self.assertEqual(meeting(slow.row, slow.settings, second, first), expected, (slow.told, first, second))


class SureCutTest(unittest.TestCase):
    def check(self, slow, place):
        found = slow.entries(place)
        sure = slow.common(found)
        told = (slow.told, place)
        self.assertEqual(sure_cut(slow.row, slow.settings, place), sure, told)
        # R2: it is the last meeting of the entries' walks with the walk from place.
        self.assertEqual(max(slow.meeting(place, entry) for entry in found), sure, told)
        latest = [entry for entry in found if slow.meeting(place, entry) == sure]
        self.assertEqual(last_apart(slow.row, slow.settings, place), min(latest), told)

    def test_the_example(self):
        self.assertEqual(sure_cut(EXAMPLE, SETTINGS, 4), 20)
        self.assertEqual(last_apart(EXAMPLE, SETTINGS, 4), 7)
        # From 0 to 3 the walks go 0 3 7, 1 3 7, 2 7 and 3 7.
        self.assertEqual(sure_cut(EXAMPLE, SETTINGS, 0), 7)
        self.assertEqual(last_apart(EXAMPLE, SETTINGS, 0), 2)

    def test_a_place_with_one_entry(self):
        for place in range(20):
            self.assertEqual(sure_cut(EXAMPLE, (1, 1, 1), place), place)
            self.assertEqual(last_apart(EXAMPLE, (1, 1, 1), place), place)

    def test_the_last_place(self):
        self.assertEqual(sure_cut(EXAMPLE, SETTINGS, 19), 20)
        self.assertEqual(last_apart(EXAMPLE, SETTINGS, 19), 20)
        self.assertEqual(sure_cut(Row(1, [], []), (1, 2, 2), 0), 1)
        self.assertEqual(last_apart(Row(1, [], []), (1, 2, 2), 0), 1)

    def test_the_next_cut_of_the_place_is_sure(self):
        row = Row(40, [11, 14], [11, 14])
        self.assertEqual(entries(row, SETTINGS, 10), [(10, 11)])
        self.assertEqual(sure_cut(row, SETTINGS, 10), 14)
        self.assertEqual(last_apart(row, SETTINGS, 10), 11)

    def test_small_rows_by_walking_from_all_entries(self):
        for slow in slow_rows(6, 4):
            for place in range(slow.length):
                self.check(slow, place)

    def test_mixed_rows_by_walking_from_all_entries(self):
        for _, slow in mixed_rows(3, 150, 90):
            for place in range(slow.length):
                self.check(slow, place)


class ApartTest(unittest.TestCase):
    def check(self, slow, place, fars):
        found = slow.entries(place)
        for far in fars:
            expected = len({slow.first_from(entry, far) for entry in found})
            self.assertEqual(apart(slow.row, slow.settings, place, far), expected, (slow.told, place, far))

    def test_the_example(self):
        # S gets smaller by 2 at 8, when it passes 5 and 6, and by 1 at 20, when it passes 18.
        told = [apart(EXAMPLE, SETTINGS, 4, far) for far in range(4, 21)]
        self.assertEqual(told, [4, 4, 3] + [2] * 12 + [1, 1])
        slow = Slow(20, [3, 7, 8, 13], [3, 8], SETTINGS)
        self.check(slow, 4, range(4, 21))

    def test_the_place_itself(self):
        self.assertEqual(apart(EXAMPLE, SETTINGS, 8, 8), 5)
        self.assertEqual(apart(EXAMPLE, SETTINGS, 19, 19), 2)
        self.assertEqual(apart(EXAMPLE, SETTINGS, 19, 20), 1)
        self.assertEqual(apart(EXAMPLE, SETTINGS, 0, 20), 1)
        self.assertEqual(apart(EXAMPLE, (1, 1, 1), 3, 3), 1)

    def test_small_rows_by_counting(self):
        for slow in slow_rows(5, 4):
            for place in range(slow.length):
                self.check(slow, place, range(place, slow.length + 1))

    def test_mixed_rows_by_counting(self):
        for random, slow in mixed_rows(4, 200, 90):
            place = random.randint(0, slow.length - 1)
            self.check(slow, place, range(place, slow.length + 1))

    def test_where_it_gets_smaller(self):
        # R3: at marks and at the end only; at a mark at most greatest - least or greatest - normal times.
        for random, slow in mixed_rows(5, 200, 90):
            place = random.randint(0, slow.length - 1)
            taken = {}
            for far in range(place, slow.length):
                lost = apart(slow.row, slow.settings, place, far) - apart(slow.row, slow.settings, place, far + 1)
                if lost:
                    self.assertEqual(lost, 1)
                    taken[slow.next[far]] = taken.get(slow.next[far], 0) + 1
            least, normal, greatest = slow.settings
            for cut, many in taken.items():
                self.assertTrue(cut == slow.length or cut in slow.marks, (slow.told, place, cut))
                if cut in slow.marks:
                    self.assertLessEqual(many, greatest - (least if cut in slow.strict else normal))


class PaperTest(unittest.TestCase):
    def expected(self, slow, place):
        found = slow.entries(place)
        for k in range(slow.length + 1):
            for entry in reversed(found):
                if slow.is_paper(place, entry, k):
                    return entry, k
        return None

    def check(self, slow, place):
        told = meeting_paper(slow.row, slow.settings, place)
        self.assertEqual(told, self.expected(slow, place), (slow.told, place))
        self.assertIs(shows_meeting(slow.row, slow.settings, place, told), True)

    def test_the_examples(self):
        row = Row(40, [10, 12], [10, 12])
        self.assertEqual(meeting_paper(row, SETTINGS, 5), (8, 1))
        self.assertIs(shows_meeting(row, SETTINGS, 5, (8, 1)), True)
        # The walk from 4 is 4 8 13 18 20, that from 6 has 8 too, and that from 7 is 7 12 17 20.
        self.assertEqual(meeting_paper(EXAMPLE, SETTINGS, 4), (6, 3))
        for thing, is_told in [((6, 3), True), ((6, 4), True), ((7, 4), True), ((7, 3), False), ((5, 3), False), ((6, 2), False)]:
            self.assertIs(shows_meeting(EXAMPLE, SETTINGS, 4, thing), is_told, thing)

    def test_a_place_with_one_entry(self):
        for place in range(20):
            self.assertEqual(meeting_paper(EXAMPLE, (1, 1, 1), place), (place, 0))

    def test_two_entries_that_are_the_place_and_its_next_cut(self):
        self.assertEqual(meeting_paper(EXAMPLE, SETTINGS, 19), (19, 0))
        self.assertEqual(meeting_paper(Row(1, [], []), (1, 2, 2), 0), (0, 0))

    def test_the_greatest_entry_stands_beside_the_next_cut_of_the_place(self):
        # From 10 on only 10 and 11 are entries, both with the next cut 14.
        row = Row(40, [11, 14], [11, 14])
        self.assertEqual(meeting_paper(row, SETTINGS, 10), (11, 1))
        self.assertIs(shows_meeting(row, SETTINGS, 10, (10, 1)), False)
        self.assertIs(shows_meeting(row, SETTINGS, 10, (11, 0)), False)

    def test_small_rows_by_the_definition(self):
        for slow in slow_rows(5, 5):
            for place in range(slow.length):
                self.check(slow, place)

    def test_mixed_rows_by_the_definition(self):
        for random, slow in mixed_rows(6, 200, 90):
            for _ in range(5):
                self.check(slow, random.randint(0, slow.length - 1))

    def test_every_tuple_of_a_place_and_a_number(self):
        for slow in slow_rows(4, 4):
            for place in range(slow.length):
                for entry in range(-1, slow.length + 2):
                    for k in range(-1, slow.length + 3):
                        told = shows_meeting(slow.row, slow.settings, place, (entry, k))
                        self.assertIs(told, slow.is_paper(place, entry, k), (slow.told, place, entry, k))

    def test_tuples_of_mixed_rows(self):
        for random, slow in mixed_rows(7, 100, 90):
            place = random.randint(0, slow.length - 1)
            entry, k = meeting_paper(slow.row, slow.settings, place)
            for other in [entry - 1, entry, entry + 1, place, slow.next[place], random.randint(0, slow.length)]:
                for number in [k - 1, k, k + 1, k + 2, 0, 1, -1, GREAT]:
                    told = shows_meeting(slow.row, slow.settings, place, (other, number))
                    self.assertIs(told, slow.is_paper(place, other, number), (slow.told, place, other, number))

    def test_any_object(self):
        row = Row(40, [10, 12], [10, 12])
        for thing in ODD_THINGS + [0, 8, 1, (), (8,), (8, 1, 1), [8, 1], [(8, 1)], ((8, 1),), ((8, 1), (8, 1)), "81"]:
            self.assertIs(shows_meeting(row, SETTINGS, 5, thing), False, thing)
        for thing in NO_INTEGERS:
            self.assertIs(shows_meeting(row, SETTINGS, 5, (thing, 1)), False, thing)
            self.assertIs(shows_meeting(row, SETTINGS, 5, (8, thing)), False, thing)
            self.assertIs(shows_meeting(row, SETTINGS, 5, (thing, thing)), False, thing)
        for thing in [(8, True), (8, 0), (8, -1), (7, 1), (9, 1), (8, -GREAT), (-8, 1), (GREAT, 1), (10, 1)]:
            self.assertIs(shows_meeting(row, SETTINGS, 5, thing), False, thing)

    def test_booleans_that_would_fit_as_integers(self):
        row = Row(4, [], [])
        self.assertIs(shows_meeting(row, (1, 1, 1), 1, (1, 0)), True)
        self.assertIs(shows_meeting(row, (1, 1, 1), 0, (0, 1)), True)
        for place, thing in [(1, (True, 0)), (1, (1, False)), (0, (False, 1)), (0, (0, True)), (0, (False, False))]:
            self.assertIs(shows_meeting(row, (1, 1, 1), place, thing), False, thing)

    def test_great_numbers_of_cuts(self):
        row = Row(40, [10, 12], [10, 12])
        for k in [1, 2, 7, 8, 9, 40, GREAT - 1, GREAT]:
            self.assertIs(shows_meeting(row, SETTINGS, 5, (8, k)), True, k)
        # From the end on every entry has all of the cuts, but no other place has.
        for entry, is_entry in [(4, False), (5, True), (7, True), (9, True), (10, False), (40, False)]:
            self.assertIs(shows_meeting(row, SETTINGS, 5, (entry, GREAT)), is_entry)


class ResultTest(unittest.TestCase):
    def test_entries_are_new_lists(self):
        first, second = entries(EXAMPLE, SETTINGS, 4), entries(EXAMPLE, SETTINGS, 4)
        self.assertEqual(first, second)
        self.assertIsNot(first, second)
        self.assertIs(type(first), list)
        self.assertIs(type(first[0]), tuple)
        first.clear()
        self.assertEqual(entries(EXAMPLE, SETTINGS, 4), second)
        self.assertEqual(EXAMPLE, Row(20, [3, 7, 8, 13], [3, 8]))

    def test_lists_that_are_changed_later(self):
        marks, strict = [3, 7, 8, 13], [3, 8]
        row = Row(20, marks, strict)
        marks.clear()
        strict.clear()
        row.marks.clear()
        self.assertEqual(entries(row, SETTINGS, 4), [(4, 7)])
        self.assertEqual(sure_cut(row, SETTINGS, 4), 20)
        self.assertEqual(apart(row, SETTINGS, 4, 7), 2)

    def test_a_thing_stays(self):
        thing = [8, 1]
        shows_meeting(EXAMPLE, SETTINGS, 4, thing)
        shows_meeting(EXAMPLE, SETTINGS, 4, (thing, thing))
        self.assertEqual(thing, [8, 1])

    def test_papers_are_tuples_of_integers(self):
        told = meeting_paper(EXAMPLE, SETTINGS, 4)
        self.assertIs(type(told), tuple)
        self.assertEqual([type(number) for number in told], [int, int])

    def test_arguments_by_name(self):
        self.assertEqual(entries(place=4, settings=SETTINGS, row=EXAMPLE), [(4, 7)])
        self.assertEqual(meeting(second=6, first=4, settings=SETTINGS, row=EXAMPLE), 8)
        self.assertEqual(sure_cut(place=4, settings=SETTINGS, row=EXAMPLE), 20)
        self.assertEqual(last_apart(place=4, settings=SETTINGS, row=EXAMPLE), 7)
        self.assertEqual(apart(far=6, place=4, settings=SETTINGS, row=EXAMPLE), 3)
        self.assertEqual(meeting_paper(place=4, settings=SETTINGS, row=EXAMPLE), (6, 3))
        self.assertIs(shows_meeting(thing=(7, 4), place=4, settings=SETTINGS, row=EXAMPLE), True)

    def test_equal_calls_have_equal_results(self):
        for _, slow in mixed_rows(8, 20, 90):
            for place in range(slow.length):
                twin = Row(slow.length, slow.marks, slow.strict)
                for function in [entries, sure_cut, last_apart, meeting_paper]:
                    first = function(slow.row, slow.settings, place)
                    self.assertEqual(function(twin, tuple(list(slow.settings)), place), first)


if __name__ == "__main__":
    unittest.main()
