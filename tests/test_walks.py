"""Points [2], [3], [4] (R1 and R7) and [7]: next cuts, walks, and the settings for cuts."""

import unittest

from cutwalks.errors import InvalidCuts, InvalidPlace, InvalidSettings, TooLarge
from cutwalks.rows import Row
from cutwalks.walks import cuts_within, first_from, next_cut, settings_for, walk
from model import GREAT, NO_INTEGERS, ODD_THINGS
from model import ascending_lists, next_by_definition, small_rows, small_settings, walk_by_definition
from model import wrong_lists, wrong_settings

EXAMPLE = Row(20, [3, 7, 8, 13], [3, 8])
SETTINGS = (2, 4, 5)
FROM_0 = [0, 3, 7, 12, 17, 20]
FROM_4 = [4, 8, 13, 18, 20]


class NextCutTest(unittest.TestCase):
    def test_the_example(self):
        expected = [3, 3, 7, 7, 8, 8, 8, 12, 13, 13, 15, 16, 17, 18, 19, 20, 20, 20, 20, 20]
        self.assertEqual([next_cut(EXAMPLE, SETTINGS, place) for place in range(20)], expected)

    def test_a_strict_mark_serves_from_least_to_greatest(self):
        row = Row(30, [10], [10])
        expected = {4: 9, 5: 10, 6: 10, 7: 10, 8: 10, 9: 14, 10: 15, 11: 16}
        self.assertEqual({place: next_cut(row, SETTINGS, place) for place in expected}, expected)

    def test_a_plain_mark_serves_from_normal_to_greatest(self):
        row = Row(30, [10], [])
        expected = {4: 9, 5: 10, 6: 10, 7: 12, 8: 13, 9: 14, 10: 15, 11: 16}
        self.assertEqual({place: next_cut(row, SETTINGS, place) for place in expected}, expected)

    def test_the_first_mark_that_serves_is_taken(self):
        self.assertEqual(next_cut(Row(30, [1, 2, 3, 4, 5], []), SETTINGS, 0), 4)
        self.assertEqual(next_cut(Row(30, [1, 2, 3, 4, 5], [5]), SETTINGS, 0), 4)
        self.assertEqual(next_cut(Row(30, [1, 2, 3, 4, 5], [3]), SETTINGS, 0), 3)
        self.assertEqual(next_cut(Row(30, [1, 2, 3, 4, 5], [1, 2]), SETTINGS, 0), 2)
        self.assertEqual(next_cut(Row(30, [1, 2, 3, 5], [1]), SETTINGS, 0), 5)
        self.assertEqual(next_cut(Row(30, [1, 2, 3, 6], [1, 6]), SETTINGS, 0), 5)

    def test_the_end_is_cut_where_the_next_cut_would_be_beyond(self):
        row = Row(10, [], [])
        self.assertEqual([next_cut(row, SETTINGS, place) for place in [3, 4, 5, 6, 9]], [8, 9, 10, 10, 10])
        row = Row(10, [9], [9])
        self.assertEqual([next_cut(row, SETTINGS, place) for place in [4, 5, 7, 8, 9]], [9, 9, 9, 10, 10])
        self.assertEqual(next_cut(Row(1, [], []), SETTINGS, 0), 1)

    def test_small_rows_by_the_definitions(self):
        for length, marks, strict in small_rows(6):
            row = Row(length, marks, strict)
            for settings in small_settings(5):
                for place in range(length):
                    self.assertEqual(
                        next_cut(row, settings, place),
                        next_by_definition(length, marks, strict, settings, place),
                        (length, marks, strict, settings, place))

    def test_next_cuts_keep_the_order_of_places(self):
        for row in [EXAMPLE, Row(20, [3, 7, 8, 13], []), Row(20, [3, 7, 8, 13], [3, 7, 8, 13]), Row(20, [], [])]:
            for settings in small_settings(7):
                cuts = [next_cut(row, settings, place) for place in range(20)]
                self.assertEqual(cuts, sorted(cuts))

    def test_next_cuts_do_not_fall_as_normal_grows(self):
        for row in [EXAMPLE, Row(20, [3, 7, 8, 13], []), Row(20, [1, 4, 9, 10, 11, 19], [4, 10])]:
            for least in range(1, 7):
                for place in range(20):
                    cuts = [next_cut(row, (least, normal, 7), place) for normal in range(least, 8)]
                    self.assertEqual(cuts, sorted(cuts))

    def test_settings_with_equal_numbers(self):
        row = Row(20, [3, 7, 8, 13], [3, 8])
        self.assertEqual([next_cut(row, (4, 4, 5), place) for place in [3, 4, 8, 9]], [7, 8, 13, 13])
        self.assertEqual([next_cut(row, (2, 5, 5), place) for place in [1, 2, 3, 8, 9]], [3, 7, 8, 13, 14])
        self.assertEqual([next_cut(row, (4, 4, 4), place) for place in range(17)], list(range(4, 21)))
        self.assertEqual([next_cut(row, (1, 1, 1), place) for place in range(20)], list(range(1, 21)))

    def test_places(self):
        for place in [-1, 20, 21, -GREAT, GREAT]:
            with self.assertRaises(InvalidPlace):
                next_cut(EXAMPLE, SETTINGS, place)
        with self.assertRaises(InvalidPlace):
            next_cut(Row(1, [], []), SETTINGS, 1)

    def test_arguments_by_name(self):
        self.assertEqual(next_cut(place=4, settings=SETTINGS, row=EXAMPLE), 8)


class WalkTest(unittest.TestCase):
    def test_the_example(self):
        self.assertEqual(walk(EXAMPLE, SETTINGS, 0), FROM_0)
        self.assertEqual(walk(EXAMPLE, SETTINGS, 4), FROM_4)
        self.assertEqual(walk(EXAMPLE, SETTINGS, 3), FROM_0[1:])

    def test_starts_near_the_end(self):
        self.assertEqual(walk(EXAMPLE, SETTINGS, 20), [20])
        self.assertEqual(walk(EXAMPLE, SETTINGS, 19), [19, 20])
        self.assertEqual(walk(EXAMPLE, SETTINGS, 15), [15, 20])
        self.assertEqual(walk(EXAMPLE, SETTINGS, 14), [14, 19, 20])
        self.assertEqual(walk(Row(1, [], []), (1, 1, 1), 0), [0, 1])
        self.assertEqual(walk(Row(1, [], []), (1, 1, 1), 1), [1])

    def test_small_rows_by_the_definitions(self):
        for length, marks, strict in small_rows(5):
            row = Row(length, marks, strict)
            for settings in small_settings(6):
                for start in range(length + 1):
                    cuts = walk_by_definition(length, marks, strict, settings, start)
                    self.assertEqual(walk(row, settings, start), cuts)

    def test_starts(self):
        for start in [-1, 21, GREAT, -GREAT]:
            with self.assertRaises(InvalidPlace):
                walk(EXAMPLE, SETTINGS, start)

    def test_walks_are_new_lists(self):
        first = walk(EXAMPLE, SETTINGS, 0)
        second = walk(EXAMPLE, SETTINGS, 0)
        self.assertEqual(first, second)
        self.assertIsNot(first, second)
        self.assertIs(type(first), list)
        first.clear()
        self.assertEqual(walk(EXAMPLE, SETTINGS, 0), FROM_0)
        self.assertEqual(EXAMPLE, Row(20, [3, 7, 8, 13], [3, 8]))

    def test_walks_of_rows_whose_lists_were_changed_later(self):
        marks, strict = [3, 7, 8, 13], [3, 8]
        row = Row(20, marks, strict)
        marks.clear()
        strict.clear()
        row.marks.clear()
        row.strict.clear()
        self.assertEqual(walk(row, SETTINGS, 0), FROM_0)
        self.assertEqual(next_cut(row, SETTINGS, 4), 8)

    def test_arguments_by_name(self):
        self.assertEqual(walk(start=4, row=EXAMPLE, settings=SETTINGS), FROM_4)

    def test_two_hundred_pieces(self):
        unit = 10 ** 27
        row = Row(200 * unit, [], [])
        self.assertEqual(walk(row, (unit, unit, unit), 0), [unit * number for number in range(201)])
        marks = [unit * number for number in range(1, 200)]
        for strict in [marks, marks[::2]]:
            row = Row(200 * unit, marks, strict)
            self.assertEqual(walk(row, (unit, unit, GREAT), 0), [0] + marks + [200 * unit])
        row = Row(200 * unit, marks, marks)
        self.assertEqual(walk(row, (unit, GREAT, GREAT), 0), [0] + marks + [200 * unit])
        self.assertEqual(walk(row, (unit + 1, GREAT, GREAT), 0), [0] + marks[1::2] + [200 * unit])

    def test_four_hundred_marks(self):
        unit = 10 ** 27
        marks = [unit // 2 * number for number in range(1, 400)] + [200 * unit - 1]
        cuts = [unit * number for number in range(200)]
        for strict in [marks, marks[::3], []]:
            row = Row(200 * unit, marks, strict)
            expected = cuts + [200 * unit]
            self.assertEqual(walk(row, (unit, unit, unit), 0), expected)
            self.assertEqual(walk(row, (unit, unit, unit + 5), 0), expected)
        self.assertEqual(len(walk(row, (unit, unit, unit), 1)), 201)

    def test_great_rows(self):
        least, normal, greatest = 10 ** 28, 2 * 10 ** 28, 3 * 10 ** 28
        settings = (least, normal, greatest)
        row = Row(10 ** 29, [], [])
        self.assertEqual(walk(row, settings, 0), [0, greatest, 2 * greatest, 3 * greatest, 10 ** 29])
        for mark in [least, least + 1, normal - 1, normal, greatest - 1, greatest]:
            self.assertEqual(next_cut(Row(10 ** 29, [mark], [mark]), settings, 0), mark)
        for mark in [1, least - 1, greatest + 1, 10 ** 29 - 1]:
            self.assertEqual(next_cut(Row(10 ** 29, [mark], [mark]), settings, 0), greatest)
        for mark in [normal, normal + 1, greatest]:
            self.assertEqual(next_cut(Row(10 ** 29, [mark], []), settings, 0), mark)
        for mark in [least, normal - 1, greatest + 1]:
            self.assertEqual(next_cut(Row(10 ** 29, [mark], []), settings, 0), greatest)
        row = Row(10 ** 29, [least, normal, normal + least + 1, 10 ** 29 - 1], [normal + least + 1, 10 ** 29 - 1])
        last = normal + least + 1 + 2 * greatest
        self.assertEqual(walk(row, settings, 0), [0, normal, normal + least + 1, normal + least + 1 + greatest, last, 10 ** 29])

    def test_settings_greater_than_the_row(self):
        row = Row(20, [3, 7, 8, 13], [3, 8])
        self.assertEqual(walk(row, (GREAT, GREAT, GREAT), 0), [0, 20])
        self.assertEqual(walk(row, (8, GREAT, GREAT), 0), [0, 8, 20])
        self.assertEqual(walk(row, (9, 13, GREAT), 0), [0, 13, 20])
        self.assertEqual(walk(row, (9, 14, GREAT), 0), [0, 20])


class FirstFromTest(unittest.TestCase):
    def test_the_example(self):
        expected = [4, 8, 8, 8, 8, 13, 13, 13, 13, 13, 18, 18, 18, 18, 18, 20, 20]
        self.assertEqual([first_from(EXAMPLE, SETTINGS, 4, place) for place in range(4, 21)], expected)
        self.assertEqual(first_from(EXAMPLE, SETTINGS, 20, 20), 20)

    def test_small_rows_by_the_definitions(self):
        for length, marks, strict in small_rows(4):
            row = Row(length, marks, strict)
            for settings in small_settings(4):
                for start in range(length + 1):
                    cuts = walk_by_definition(length, marks, strict, settings, start)
                    for place in range(start, length + 1):
                        expected = min(cut for cut in cuts if cut >= place)
                        self.assertEqual(first_from(row, settings, start, place), expected)

    def test_places(self):
        for start, place in [(4, 3), (-1, 4), (4, 21), (21, 21), (20, 19), (1, 0), (0, -1), (21, 5), (0, GREAT)]:
            with self.assertRaises(InvalidPlace):
                first_from(EXAMPLE, SETTINGS, start, place)

    def test_great_rows(self):
        unit = 10 ** 27
        row = Row(200 * unit, [unit + 1], [unit + 1])
        settings = (unit, unit, 2 * unit)
        self.assertEqual(first_from(row, settings, 0, 1), unit + 1)
        self.assertEqual(first_from(row, settings, 0, unit + 1), unit + 1)
        self.assertEqual(first_from(row, settings, 0, unit + 2), 3 * unit + 1)
        self.assertEqual(first_from(row, settings, 0, 199 * unit + 2), 200 * unit)

    def test_arguments_by_name(self):
        self.assertEqual(first_from(place=9, start=4, settings=SETTINGS, row=EXAMPLE), 13)


class CutsWithinTest(unittest.TestCase):
    def test_the_example(self):
        self.assertEqual(cuts_within(EXAMPLE, SETTINGS, 4, 4, 20), 4)
        self.assertEqual(cuts_within(EXAMPLE, SETTINGS, 4, 4, 4), 0)
        self.assertEqual(cuts_within(EXAMPLE, SETTINGS, 4, 4, 5), 1)
        self.assertEqual(cuts_within(EXAMPLE, SETTINGS, 4, 5, 8), 0)
        self.assertEqual(cuts_within(EXAMPLE, SETTINGS, 4, 8, 13), 1)
        self.assertEqual(cuts_within(EXAMPLE, SETTINGS, 4, 8, 14), 2)
        self.assertEqual(cuts_within(EXAMPLE, SETTINGS, 0, 0, 20), 5)
        self.assertEqual(cuts_within(EXAMPLE, SETTINGS, 0, 20, 20), 0)
        self.assertEqual(cuts_within(EXAMPLE, SETTINGS, 20, 20, 20), 0)

    def test_small_rows_by_the_definitions(self):
        for length, marks, strict in small_rows(4):
            row = Row(length, marks, strict)
            for settings in small_settings(3):
                for start in range(length + 1):
                    self.check(row, settings, start)

    def check(self, row, settings, start):
        cuts = walk_by_definition(row.length, row.marks, row.strict, settings, start)
        for low in range(start, row.length + 1):
            for high in range(low, row.length + 1):
                expected = len([cut for cut in cuts if low <= cut < high])
                self.assertEqual(cuts_within(row, settings, start, low, high), expected)

    def test_places(self):
        wrong = [(-1, 0, 5), (0, -1, 5), (4, 3, 5), (4, 6, 5), (4, 6, 3), (4, 3, 3), (4, 5, 21), (21, 21, 21)]
        wrong += [(20, 20, 19), (5, 4, 20), (0, 21, 22), (0, 0, -1), (0, 0, GREAT)]
        for start, low, high in wrong:
            with self.assertRaises(InvalidPlace, msg=repr((start, low, high))):
                cuts_within(EXAMPLE, SETTINGS, start, low, high)

    def test_great_rows(self):
        unit = 10 ** 27
        row = Row(200 * unit, [], [])
        settings = (unit, unit, unit)
        self.assertEqual(cuts_within(row, settings, 0, 0, 200 * unit), 200)
        self.assertEqual(cuts_within(row, settings, 0, 1, 200 * unit), 199)
        self.assertEqual(cuts_within(row, settings, 0, unit, 2 * unit), 1)
        self.assertEqual(cuts_within(row, settings, 0, unit + 1, 2 * unit), 0)
        self.assertEqual(cuts_within(row, settings, 1, 2, 200 * unit), 199)

    def test_arguments_by_name(self):
        self.assertEqual(cuts_within(high=14, low=8, start=4, settings=SETTINGS, row=EXAMPLE), 2)


def bounds_by_definition(row, cuts):
    """The bounds that follow from the pieces one by one, whether or not settings fit."""
    bounds = [1, None, 1, None, 1, None]
    for begin, end in zip(cuts, cuts[1:]):
        for mark in range(begin + 1, end):
            if mark in row.marks:
                which = 0 if mark in row.strict else 2
                bounds[which] = max(bounds[which], mark - begin + 1)
        bounds[4] = max(bounds[4], end - begin)
        if end != row.length:
            which = 5 if end not in row.marks else 1 if end in row.strict else 3
            bounds[which] = min(bounds[which] or end - begin, end - begin)
    return tuple(bounds)


def lie_within(settings, bounds):
    return all(
        low <= number and (high is None or number <= high)
        for number, low, high in zip(settings, bounds[::2], bounds[1::2]))


class SettingsForTest(unittest.TestCase):
    def test_the_example(self):
        self.assertEqual(settings_for(EXAMPLE, FROM_0), (2, 3, 2, 4, 5, 5))
        self.assertEqual(settings_for(EXAMPLE, FROM_4), (1, 4, 4, 5, 5, 5))

    def test_the_end_alone(self):
        for row in [EXAMPLE, Row(1, [], []), Row(GREAT, [5], [])]:
            self.assertEqual(settings_for(row, [row.length]), (1, None, 1, None, 1, None))

    def test_one_piece(self):
        self.assertEqual(settings_for(Row(10, [], []), [3, 10]), (1, None, 1, None, 7, None))
        self.assertEqual(settings_for(Row(10, [5, 7], [5]), [3, 10]), (3, None, 5, None, 7, None))
        self.assertEqual(settings_for(Row(10, [4, 5, 7, 9], [4, 5]), [3, 10]), (3, None, 7, None, 7, None))
        self.assertEqual(settings_for(Row(10, [1, 3], [1]), [3, 10]), (1, None, 1, None, 7, None))

    def test_ends_of_each_kind(self):
        self.assertEqual(settings_for(Row(10, [4], [4]), [0, 4, 10]), (1, 4, 1, None, 6, None))
        self.assertEqual(settings_for(Row(10, [4], []), [0, 4, 10]), (1, None, 1, 4, 6, None))
        self.assertEqual(settings_for(Row(10, [], []), [0, 6, 10]), (1, None, 1, None, 6, 6))
        self.assertEqual(settings_for(Row(10, [3, 5], [3, 5]), [0, 3, 5, 10]), (1, 2, 1, None, 5, None))
        self.assertEqual(settings_for(Row(10, [3, 5], []), [0, 3, 5, 10]), (1, None, 1, 2, 5, None))

    def test_lists_that_no_settings_give(self):
        for row, cuts in [
            (Row(10, [], []), [0, 4, 10]),
            (Row(10, [], []), [0, 3, 7, 10]),
            (Row(10, [2, 4], [2, 4]), [0, 4, 5, 10]),
            (Row(10, [2, 5], [2, 5]), [0, 5, 7, 10]),
            (Row(10, [2, 5], [5]), [0, 5, 7, 10]),
            (Row(10, [3, 6, 8], [3, 8]), [0, 6, 8, 10]),
            (Row(10, [3], [3]), [0, 4, 6, 10]),
            (Row(10, [3], []), [0, 3, 5, 10]),
        ]:
            self.assertIsNone(settings_for(row, cuts), (row.marks, cuts))

    def test_a_low_bound_of_one_number_against_the_upper_bound_of_another(self):
        # A strict mark passed over at distance 4 makes least 5, a plain cut at distance 3 normal 3.
        row = Row(20, [4, 9, 12], [4])
        self.assertIsNone(settings_for(row, [0, 9, 12, 20]))
        row = Row(20, [4, 9, 14], [4])
        self.assertEqual(settings_for(row, [0, 9, 14, 20]), (5, None, 1, 5, 9, None))
        # What the bounds of least and normal ask of greatest, the length of the same piece asks anyhow.
        self.assertIsNone(settings_for(Row(20, [16], [16]), [0, 5, 10, 20]))
        self.assertEqual(settings_for(Row(20, [16], [16]), [0, 10, 20]), (7, None, 1, None, 10, 10))
        self.assertEqual(settings_for(Row(20, [19], [19]), [0, 10, 20]), (10, None, 1, None, 10, 10))
        self.assertEqual(settings_for(Row(20, [19], []), [0, 10, 20]), (1, None, 10, None, 10, 10))

    def test_small_rows_by_all_walks(self):
        for length, marks, strict in small_rows(5):
            row = Row(length, marks, strict)
            found = {}
            for settings in small_settings(length + 2):
                for start in range(length + 1):
                    cuts = tuple(walk_by_definition(length, marks, strict, settings, start))
                    found.setdefault(cuts, []).append(settings)
            for before in ascending_lists(0, length - 1):
                self.check(row, before + [length], found)

    def check(self, row, cuts, found):
        told = settings_for(row, cuts)
        if tuple(cuts) not in found:
            self.assertIsNone(told, (row.length, row.marks, row.strict, cuts))
            return
        self.assertEqual(told, bounds_by_definition(row, cuts))
        within = [settings for settings in small_settings(row.length + 2) if lie_within(settings, told)]
        self.assertEqual(within, found[tuple(cuts)])

    def test_settings_just_within_and_just_outside_the_bounds(self):
        row = Row(200, [10, 25, 40, 58, 61, 90, 120, 140], [25, 58, 61, 120])
        for settings in [(15, 18, 30), (12, 12, 33), (20, 40, 60)]:
            for start in [0, 7, 60, 110]:
                self.check_around(row, walk(row, settings, start), settings)

    def check_around(self, row, cuts, settings):
        bounds = settings_for(row, cuts)
        self.assertEqual(bounds, bounds_by_definition(row, cuts))
        self.assertTrue(lie_within(settings, bounds))
        numbers = [
            {settings[which], bounds[2 * which] - 1, bounds[2 * which], bounds[2 * which + 1] or 500,
             (bounds[2 * which + 1] or 500) + 1}
            for which in range(3)]
        for least in numbers[0]:
            for normal in numbers[1]:
                for greatest in numbers[2]:
                    if 1 <= least <= normal <= greatest:
                        gives = walk_by_definition(200, row.marks, row.strict, (least, normal, greatest), cuts[0]) == cuts
                        self.assertEqual(gives, lie_within((least, normal, greatest), bounds))

    def test_great_rows(self):
        unit = 10 ** 27
        row = Row(200 * unit, [unit - 1, unit, 3 * unit - 1, 3 * unit], [unit - 1, unit])
        cuts = walk(row, (unit, 2 * unit, 3 * unit), 0)
        self.assertEqual(cuts[:4], [0, unit, 3 * unit, 6 * unit])
        self.assertEqual(settings_for(row, cuts), (unit, unit, 2 * unit, 2 * unit, 3 * unit, 3 * unit))
        row = Row(GREAT, [GREAT - 2, GREAT - 1], [GREAT - 2])
        self.assertEqual(settings_for(row, [1, GREAT]), (GREAT - 2, None, GREAT - 1, None, GREAT - 1, None))
        marks = [unit // 2 * number for number in range(1, 400)] + [200 * unit - 1]
        row = Row(200 * unit, marks, marks)
        self.assertEqual(
            settings_for(row, [unit * number for number in range(201)]),
            (unit, unit, 1, None, unit, None))
        row = row.without_marks([200 * unit - 1])
        self.assertEqual(
            settings_for(row, [unit * number for number in range(201)]),
            (unit // 2 + 1, unit, 1, None, unit, None))

    def test_long_rows_are_not_too_large(self):
        row = Row(1000, [], [])
        self.assertEqual(settings_for(row, list(range(1001))), (1, None, 1, None, 1, 1))
        self.assertEqual(settings_for(row, list(range(0, 1001, 2))), (1, None, 1, None, 2, 2))
        self.assertEqual(settings_for(Row(GREAT, [], []), [0, 1, GREAT]), None)

    def test_wrong_cuts(self):
        row = Row(6, [2, 4], [2])
        wrong = ODD_THINGS + [6, 0, (), (6,), (0, 6), [], [0], [5], [0, 5], [6, 6], [0, 6, 6], [0, 3, 3, 6]]
        wrong += [[3, 0, 6], [6, 0], [0, 7], [7], [-1, 6], [0, 6, 7], [0, GREAT], [-GREAT, 6], [0, 6, 5], [[0, 6]]]
        for thing in NO_INTEGERS:
            wrong += [[thing], [thing, 6], [0, thing], [0, thing, 6], [0, 6, thing]]
        wrong += [[True, 6], [False, 6], [0, True, 6], [False, True, 6]]
        for cuts in wrong:
            with self.assertRaises(InvalidCuts, msg=repr(cuts)):
                settings_for(row, cuts)
        with self.assertRaises(InvalidCuts):
            settings_for(Row(1, [], []), [True])
        with self.assertRaises(InvalidCuts):
            settings_for(Row(1, [], []), [0, True])

    def test_arguments_by_name_and_what_stays(self):
        cuts = list(FROM_0)
        first = settings_for(cuts=cuts, row=EXAMPLE)
        self.assertEqual(cuts, FROM_0)
        self.assertIs(type(first), tuple)
        self.assertEqual(first, settings_for(EXAMPLE, cuts))
        self.assertEqual(EXAMPLE, Row(20, [3, 7, 8, 13], [3, 8]))


def calls(row, settings, places):
    """Calls of the four functions with settings; places are a start and two others."""
    return [
        lambda: next_cut(row, settings, places[0]),
        lambda: walk(row, settings, places[0]),
        lambda: first_from(row, settings, places[0], places[1]),
        lambda: cuts_within(row, settings, places[0], places[1], places[2]),
    ]


class ErrorTest(unittest.TestCase):
    def check(self, row, settings, places, error):
        for call in calls(row, settings, places):
            with self.assertRaises(error, msg=repr((settings, places))):
                call()

    def test_settings_that_are_any_object(self):
        for settings in wrong_settings():
            self.check(EXAMPLE, settings, (0, 5, 10), InvalidSettings)

    def test_wrong_lists_are_no_settings(self):
        for thing in wrong_lists(1, 4):
            self.check(EXAMPLE, thing, (0, 5, 10), InvalidSettings)

    def test_settings_are_checked_first(self):
        for settings in [None, (2, 4), (True, 4, 5), (3, 2, 5)]:
            self.check(EXAMPLE, settings, (-1, -2, -3), InvalidSettings)
            self.check(Row(GREAT, [], []), settings, (0, 1, 2), InvalidSettings)
            self.check(Row(GREAT, [], []), settings, (-1, -2, -3), InvalidSettings)

    def test_too_large_comes_after_the_other_errors(self):
        row = Row(401, [], [])
        self.check(row, SETTINGS, (0, 5, 10), TooLarge)
        self.check(row, SETTINGS, (-1, 5, 10), InvalidPlace)
        self.check(row, SETTINGS, (402, 402, 402), InvalidPlace)
        with self.assertRaises(InvalidPlace):
            next_cut(row, SETTINGS, 401)
        for start, place in [(4, 3), (0, 402), (402, 402)]:
            with self.assertRaises(InvalidPlace):
                first_from(row, SETTINGS, start, place)
        for start, low, high in [(4, 3, 5), (4, 6, 5), (0, 0, 402)]:
            with self.assertRaises(InvalidPlace):
                cuts_within(row, SETTINGS, start, low, high)
        with self.assertRaises(TooLarge):
            walk(row, SETTINGS, 401)

    def test_two_hundred_times_least(self):
        for least in [1, 2, 7, 10 ** 27]:
            for settings in [(least, least, least), (least, 2 * least, 3 * least), (least, GREAT, GREAT)]:
                for call in calls(Row(200 * least, [], []), settings, (0, 0, 200 * least)):
                    call()
                for more in [200 * least + 1, 200 * least + 200, GREAT]:
                    self.check(Row(more, [], []), settings, (0, 0, 1), TooLarge)
                    self.check(Row(more, [], []), settings, (more - 1, more, more), TooLarge)
        self.check(Row(GREAT, [], []), ((GREAT - 1) // 200, GREAT, GREAT), (0, 0, 1), TooLarge)
        for call in calls(Row(GREAT, [], []), (GREAT // 200 + 1, GREAT, GREAT), (0, 0, 1)):
            call()

    def test_equal_calls_have_equal_results(self):
        for places in [(0, 5, 10), (4, 4, 20)]:
            first = [call() for call in calls(EXAMPLE, SETTINGS, places)]
            again = [call() for call in calls(Row(20, [3, 7, 8, 13], [3, 8]), (2, 4, 5), places)]
            self.assertEqual(first, again)


if __name__ == "__main__":
    unittest.main()
