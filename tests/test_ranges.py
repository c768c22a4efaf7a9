"""Points [2], [3] and [8]: the ranges of next cuts, and of first cuts from a place on."""

import unittest

from cutwalks.ranges import first_cuts, image
from cutwalks.rows import Row
from model import GREAT, Slow, mixed_rows, parts, places_of, ranges_of, slow_rows

EXAMPLE = Row(20, [3, 7, 8, 13], [3, 8])
SETTINGS = (2, 4, 5)


class ImageTest(unittest.TestCase):
    def test_the_example(self):
        # 0 to 19 have the next cuts 3 3 7 7 8 8 8 12 13 13 15 16 17 18 19 20 20 20 20 20.
        self.assertEqual(image(EXAMPLE, SETTINGS, [(0, 20)]), [(3, 3), (7, 8), (12, 13), (15, 20)])
        self.assertEqual(image(EXAMPLE, SETTINGS, [(0, 1)]), [(3, 3)])
        self.assertEqual(image(EXAMPLE, SETTINGS, [(1, 2)]), [(3, 3), (7, 7)])
        self.assertEqual(image(EXAMPLE, SETTINGS, [(2, 6)]), [(7, 8)])
        self.assertEqual(image(EXAMPLE, SETTINGS, [(7, 9)]), [(12, 13)])
        self.assertEqual(image(EXAMPLE, SETTINGS, [(9, 9), (14, 14)]), [(13, 13), (19, 19)])
        self.assertEqual(image(EXAMPLE, SETTINGS, [(0, 0), (3, 3), (7, 10)]), [(3, 3), (7, 7), (12, 13), (15, 15)])

    def test_the_end(self):
        self.assertEqual(image(EXAMPLE, SETTINGS, [(20, 20)]), [])
        self.assertEqual(image(EXAMPLE, SETTINGS, [(19, 20)]), [(20, 20)])
        self.assertEqual(image(EXAMPLE, SETTINGS, [(9, 9), (20, 20)]), [(13, 13)])
        self.assertEqual(image(EXAMPLE, SETTINGS, [(9, 9), (14, 20)]), [(13, 13), (19, 20)])
        self.assertEqual(image(Row(1, [], []), (1, 1, 1), [(0, 1)]), [(1, 1)])
        self.assertEqual(image(Row(1, [], []), (1, 1, 1), [(1, 1)]), [])
        self.assertEqual(image(Row(1, [], []), (1, 5, GREAT), [(0, 0)]), [(1, 1)])

    def test_ranges_that_touch_are_joined(self):
        # 2 and 3 have the next cut 7, from 4 on it is 8; 13 stands two above 11.
        self.assertEqual(image(EXAMPLE, SETTINGS, [(2, 2), (4, 4)]), [(7, 8)])
        self.assertEqual(image(EXAMPLE, SETTINGS, [(3, 3), (6, 6), (8, 8)]), [(7, 8), (13, 13)])
        row = Row(30, [], [])
        self.assertEqual(image(row, SETTINGS, [(0, 0), (2, 2), (4, 5)]), [(5, 5), (7, 7), (9, 10)])
        self.assertEqual(image(row, SETTINGS, [(0, 30)]), [(5, 30)])

    def test_small_rows_place_by_place(self):
        for slow in slow_rows(4, 4):
            for places in parts(slow.length):
                expected = ranges_of(slow.next[place] for place in places if place < slow.length)
                told = image(slow.row, slow.settings, ranges_of(places))
                self.assertEqual(told, expected, (slow.told, places))

    def test_longer_small_rows_with_one_place_and_with_all(self):
        for slow in slow_rows(6, 5):
            self.assertEqual(image(slow.row, slow.settings, [(0, slow.length)]), ranges_of(slow.next))
            for place, cut in enumerate(slow.next):
                self.assertEqual(image(slow.row, slow.settings, [(place, place)]), [(cut, cut)], (slow.told, place))

    def test_mixed_rows_place_by_place(self):
        for random, slow in mixed_rows(1, 300, 150):
            for share in (0.1, 0.5, 0.9):
                places = [random.randint(0, slow.length)]
                places += [place for place in range(slow.length + 1) if random.random() < share]
                expected = ranges_of(slow.next[place] for place in places if place < slow.length)
                told = image(slow.row, slow.settings, ranges_of(places))
                self.assertEqual(told, expected, (slow.told, places))

    def test_great_rows(self):
        unit = 10 ** 27
        settings = (unit, 2 * unit, 3 * unit)
        row = Row(200 * unit, [50 * unit], [50 * unit])
        everything = [(3 * unit, 50 * unit), (52 * unit + 1, 200 * unit)]
        self.assertEqual(image(row, settings, [(0, 200 * unit)]), everything)
        self.assertEqual(image(row, settings, [(47 * unit - 1, 47 * unit)]), [(50 * unit - 1, 50 * unit)])
        self.assertEqual(image(row, settings, [(47 * unit, 49 * unit)]), [(50 * unit, 50 * unit)])
        self.assertEqual(
            image(row, settings, [(49 * unit, 49 * unit + 1)]), [(50 * unit, 50 * unit), (52 * unit + 1, 52 * unit + 1)])
        row = Row(200 * unit, [50 * unit], [])
        self.assertEqual(
            image(row, settings, [(48 * unit, 48 * unit + 1)]), [(50 * unit, 50 * unit), (51 * unit + 1, 51 * unit + 1)])
        self.assertEqual(
            image(row, settings, [(197 * unit - 1, 197 * unit + 1)]), [(200 * unit - 1, 200 * unit)])

    def test_greatest_as_great_as_the_row(self):
        row = Row(GREAT, [GREAT // 2], [GREAT // 2])
        settings = (GREAT // 200 + 1, GREAT, GREAT)
        last = GREAT // 2 - GREAT // 200 - 1
        self.assertEqual(image(row, settings, [(0, GREAT)]), [(GREAT // 2, GREAT // 2), (GREAT, GREAT)])
        self.assertEqual(image(row, settings, [(0, last)]), [(GREAT // 2, GREAT // 2)])
        self.assertEqual(image(row, settings, [(last + 1, GREAT - 1)]), [(GREAT, GREAT)])
        self.assertEqual(image(Row(GREAT, [], []), (GREAT, GREAT, GREAT), [(0, GREAT)]), [(GREAT, GREAT)])


class FirstCutsTest(unittest.TestCase):
    def test_the_example(self):
        entries = [(4, 7)]
        told = [first_cuts(EXAMPLE, SETTINGS, entries, place) for place in [7, 8, 9, 12, 13, 14, 16, 17, 18, 19, 20]]
        self.assertEqual(told, [
            [(7, 8)], [(8, 8), (12, 12)], [(12, 13)], [(12, 13)], [(13, 13), (17, 17)], [(17, 18)], [(17, 18)],
            [(17, 18)], [(18, 18), (20, 20)], [(20, 20)], [(20, 20)]])

    def test_the_place_at_the_last_of_the_ranges(self):
        self.assertEqual(first_cuts(EXAMPLE, SETTINGS, [(9, 9)], 9), [(9, 9)])
        self.assertEqual(first_cuts(EXAMPLE, SETTINGS, [(9, 9)], 10), [(13, 13)])
        self.assertEqual(first_cuts(EXAMPLE, SETTINGS, [(0, 0), (9, 9)], 9), [(9, 9), (12, 12)])
        self.assertEqual(first_cuts(EXAMPLE, SETTINGS, [(0, 20)], 20), [(20, 20)])
        self.assertEqual(first_cuts(EXAMPLE, SETTINGS, [(20, 20)], 20), [(20, 20)])
        self.assertEqual(first_cuts(EXAMPLE, SETTINGS, [(0, 14)], 14), [(14, 18)])

    def test_small_rows_walk_by_walk(self):
        for slow in slow_rows(4, 3):
            for places in parts(slow.length):
                for place in range(places[-1], slow.length + 1):
                    expected = ranges_of(slow.first_from(start, place) for start in places)
                    told = first_cuts(slow.row, slow.settings, ranges_of(places), place)
                    self.assertEqual(told, expected, (slow.told, places, place))

    def test_longer_small_rows_with_all_places_up_to_one(self):
        for slow in slow_rows(6, 4):
            for last in range(slow.length + 1):
                for place in range(last, slow.length + 1):
                    expected = ranges_of(slow.first_from(start, place) for start in range(last + 1))
                    told = first_cuts(slow.row, slow.settings, [(0, last)], place)
                    self.assertEqual(told, expected, (slow.told, last, place))

    def test_mixed_rows_walk_by_walk(self):
        for random, slow in mixed_rows(2, 300, 150):
            for share in (0.1, 0.9):
                last = random.randint(0, slow.length)
                places = [last] + [place for place in range(last) if random.random() < share]
                for place in {last, min(last + 1, slow.length), random.randint(last, slow.length), slow.length}:
                    expected = ranges_of(slow.first_from(start, place) for start in places)
                    told = first_cuts(slow.row, slow.settings, ranges_of(places), place)
                    self.assertEqual(told, expected, (slow.told, places, place))

    def test_great_rows(self):
        unit = 10 ** 27
        settings = (unit, 2 * unit, 3 * unit)
        row = Row(200 * unit, [], [])
        self.assertEqual(
            first_cuts(row, settings, [(0, unit)], 90 * unit + 5), [(90 * unit + 5, 91 * unit), (93 * unit, 93 * unit + 4)])
        self.assertEqual(first_cuts(row, settings, [(0, 3 * unit - 1)], 90 * unit), [(90 * unit, 93 * unit - 1)])
        self.assertEqual(first_cuts(row, settings, [(0, 90 * unit)], 90 * unit), [(90 * unit, 93 * unit - 1)])
        self.assertEqual(first_cuts(row, settings, [(0, 5)], 198 * unit + 2), [(198 * unit + 2, 198 * unit + 5), (200 * unit, 200 * unit)])
        row = Row(200 * unit, [60 * unit], [60 * unit])
        self.assertEqual(
            first_cuts(row, settings, [(0, unit)], 90 * unit),
            [(90 * unit, 90 * unit)])
        self.assertEqual(
            first_cuts(row, settings, [(0, 2 * unit + 1)], 90 * unit),
            [(90 * unit, 90 * unit), (92 * unit + 1, 92 * unit + 1)])
        self.assertEqual(
            first_cuts(row, settings, [(0, 2 * unit + 1)], 90 * unit + 1),
            [(92 * unit + 1, 92 * unit + 1), (93 * unit, 93 * unit)])

    def test_two_hundred_pieces_and_all_starts(self):
        unit = 10 ** 27
        row = Row(200 * unit, [], [])
        for greatest in [unit, unit + 1]:
            settings = (unit, unit, greatest)
            self.assertEqual(first_cuts(row, settings, [(0, 199 * unit)], 200 * unit), [(200 * unit, 200 * unit)])
            low = 199 * unit
            self.assertEqual(first_cuts(row, settings, [(0, low)], low), [(low, low + greatest - 1)])


class ResultTest(unittest.TestCase):
    def test_lists_are_new_and_arguments_stay(self):
        ranges = [(0, 1), (4, 7)]
        for call in [lambda: image(EXAMPLE, SETTINGS, ranges), lambda: first_cuts(EXAMPLE, SETTINGS, ranges, 7)]:
            first, second = call(), call()
            self.assertEqual(first, second)
            self.assertIsNot(first, second)
            self.assertIsNot(first, ranges)
            self.assertIs(type(first), list)
            self.assertTrue(all(type(pair) is tuple for pair in first))
            first.clear()
            self.assertEqual(call(), second)
            self.assertEqual(ranges, [(0, 1), (4, 7)])
            self.assertEqual(EXAMPLE, Row(20, [3, 7, 8, 13], [3, 8]))
        ranges = [(20, 20)]
        told = first_cuts(EXAMPLE, SETTINGS, ranges, 20)
        self.assertEqual(told, ranges)
        told.append((1, 1))
        self.assertEqual(ranges, [(20, 20)])
        empty = image(EXAMPLE, SETTINGS, ranges)
        empty.append((1, 1))
        self.assertEqual(image(EXAMPLE, SETTINGS, ranges), [])

    def test_results_may_be_passed_again(self):
        ranges = [(0, 20)]
        for expected in [[3, 7, 8, 12, 13, 15, 16, 17, 18, 19, 20], [7, 12, 13, 17, 18, 20], [12, 17, 18, 20], [17, 20], [20], []]:
            ranges = image(EXAMPLE, SETTINGS, ranges)
            self.assertEqual(places_of(ranges), expected)

    def test_arguments_by_name(self):
        self.assertEqual(image(ranges=[(7, 9)], settings=SETTINGS, row=EXAMPLE), [(12, 13)])
        self.assertEqual(first_cuts(place=9, ranges=[(4, 7)], settings=SETTINGS, row=EXAMPLE), [(12, 13)])

    def test_many_ranges(self):
        row = Row(20000, [5000, 10001, 15002], [10001])
        settings = (100, 150, 250)
        ranges = [(place, place) for place in range(0, 4001, 3)]
        slow = Slow(20000, row.marks, row.strict, settings)
        self.assertEqual(image(row, settings, ranges), ranges_of(slow.next[place] for place in range(0, 4001, 3)))
        expected = ranges_of(slow.first_from(place, 4100) for place in range(0, 4001, 3))
        self.assertEqual(first_cuts(row, settings, ranges, 4100), expected)


if __name__ == "__main__":
    unittest.main()
