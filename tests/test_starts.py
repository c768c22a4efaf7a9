"""Points [2], [3] and [10]: which starts have a cut, share one, or meet before the end."""

import unittest

from cutwalks.rows import Row
from cutwalks.starts import basin, partners, share, sure_for
from model import GREAT, mixed_rows, parts, ranges_of, slow_rows

EXAMPLE = Row(20, [3, 7, 8, 13], [3, 8])
SETTINGS = (2, 4, 5)


class BasinTest(unittest.TestCase):
    def check(self, slow, cut):
        starts = [start for start in range(slow.length + 1) if cut in slow.walks[start]]
        self.assertEqual(basin(slow.row, slow.settings, cut), ranges_of(starts), (slow.told, cut))
        self.assertEqual(share(slow.row, slow.settings, cut), len(starts), (slow.told, cut))

    def test_the_example(self):
        self.assertEqual(basin(EXAMPLE, SETTINGS, 8), [(4, 6), (8, 8)])
        self.assertEqual(share(EXAMPLE, SETTINGS, 8), 4)
        self.assertEqual(basin(EXAMPLE, SETTINGS, 7), [(0, 3), (7, 7)])
        self.assertEqual(share(EXAMPLE, SETTINGS, 7), 5)
        self.assertEqual(basin(EXAMPLE, SETTINGS, 17), [(0, 3), (7, 7), (12, 12), (17, 17)])
        self.assertEqual(basin(EXAMPLE, SETTINGS, 13), [(4, 6), (8, 9), (13, 13)])

    def test_places_that_no_other_walk_has(self):
        for cut in [0, 1, 2, 4, 5, 6, 9, 10, 11, 14]:
            self.assertEqual(basin(EXAMPLE, SETTINGS, cut), [(cut, cut)])
            self.assertEqual(share(EXAMPLE, SETTINGS, cut), 1)

    def test_the_end(self):
        self.assertEqual(basin(EXAMPLE, SETTINGS, 20), [(0, 20)])
        self.assertEqual(share(EXAMPLE, SETTINGS, 20), 21)
        self.assertEqual(basin(Row(1, [], []), (1, 1, 1), 1), [(0, 1)])
        self.assertEqual(share(Row(1, [], []), (1, 1, 1), 0), 1)

    def test_small_rows_by_walking_from_every_start(self):
        for slow in slow_rows(6, 4):
            for cut in range(slow.length + 1):
                self.check(slow, cut)

    def test_mixed_rows_by_walking_from_every_start(self):
        for _, slow in mixed_rows(1, 150, 120):
            for cut in range(slow.length + 1):
                self.check(slow, cut)

    def test_great_rows(self):
        unit = 10 ** 27
        settings = (unit, 2 * unit, 3 * unit)
        row = Row(200 * unit, [6 * unit], [6 * unit])
        self.assertEqual(basin(row, settings, 6 * unit), [(0, 2 * unit), (3 * unit, 5 * unit), (6 * unit, 6 * unit)])
        self.assertEqual(share(row, settings, 6 * unit), 4 * unit + 3)
        self.assertEqual(basin(row, settings, 6 * unit - 1), [(3 * unit - 1, 3 * unit - 1), (6 * unit - 1, 6 * unit - 1)])
        self.assertEqual(basin(row, settings, 200 * unit), [(0, 200 * unit)])
        self.assertEqual(share(row, settings, 200 * unit), 200 * unit + 1)
        row = Row(200 * unit, [6 * unit], [])
        self.assertEqual(basin(row, settings, 6 * unit), [(0, unit), (3 * unit, 4 * unit), (6 * unit, 6 * unit)])
        row = Row(200 * unit, [], [])
        told = basin(row, (unit, unit, unit), 199 * unit)
        self.assertEqual(told, [(unit * number, unit * number) for number in range(200)])
        self.assertEqual(share(row, (unit, unit, unit), 199 * unit + 1), 200)
        self.assertEqual(share(row, (unit, unit, unit), 200 * unit - 1), 200)

    def test_greatest_as_great_as_the_row(self):
        least = GREAT // 200 + 1
        half = GREAT // 2
        row = Row(GREAT, [half], [half])
        settings = (least, GREAT, GREAT)
        self.assertEqual(basin(row, settings, half), [(0, half - least), (half, half)])
        self.assertEqual(share(row, settings, half), half - least + 2)
        self.assertEqual(basin(row, settings, GREAT), [(0, GREAT)])
        self.assertEqual(share(row, settings, GREAT), GREAT + 1)
        self.assertEqual(basin(row, settings, half + 1), [(half + 1, half + 1)])
        row = Row(GREAT, [half], [])
        self.assertEqual(basin(row, settings, half), [(half, half)])
        self.assertEqual(basin(row, (least, half, GREAT), half), [(0, 0), (half, half)])


class SureForTest(unittest.TestCase):
    def test_the_example(self):
        self.assertEqual(sure_for(EXAMPLE, SETTINGS, [(4, 7)]), 20)
        self.assertEqual(sure_for(EXAMPLE, SETTINGS, [(4, 6)]), 8)
        self.assertEqual(sure_for(EXAMPLE, SETTINGS, [(0, 3)]), 7)
        self.assertEqual(sure_for(EXAMPLE, SETTINGS, [(0, 1)]), 3)
        self.assertEqual(sure_for(EXAMPLE, SETTINGS, [(4, 6), (8, 9)]), 13)
        self.assertEqual(sure_for(EXAMPLE, SETTINGS, [(0, 0), (2, 3)]), 7)
        self.assertEqual(sure_for(EXAMPLE, SETTINGS, [(0, 3), (7, 7), (12, 12)]), 12)

    def test_ranges_of_one_place(self):
        for place in range(21):
            self.assertEqual(sure_for(EXAMPLE, SETTINGS, [(place, place)]), place)

    def test_the_end(self):
        self.assertEqual(sure_for(EXAMPLE, SETTINGS, [(0, 20)]), 20)
        self.assertEqual(sure_for(EXAMPLE, SETTINGS, [(4, 4), (20, 20)]), 20)
        self.assertEqual(sure_for(EXAMPLE, SETTINGS, [(19, 20)]), 20)
        self.assertEqual(sure_for(Row(1, [], []), (1, 1, 1), [(0, 1)]), 1)

    def test_all_starts_between_two_may_differ_where_the_two_meet(self):
        # 0 and 6 meet at 6, the walk from 4 does not have it.
        row = Row(30, [3, 6], [3, 6])
        self.assertEqual(sure_for(row, (3, 3, 4), [(0, 0), (6, 6)]), 6)
        self.assertEqual(sure_for(row, (3, 3, 4), [(0, 0), (4, 4), (6, 6)]), 30)
        self.assertEqual(sure_for(row, (3, 3, 4), [(0, 6)]), 30)

    def test_small_rows_by_all_walks(self):
        for slow in slow_rows(4, 4):
            for places in parts(slow.length):
                told = sure_for(slow.row, slow.settings, ranges_of(places))
                self.assertEqual(told, slow.common(places), (slow.told, places))

    def test_mixed_rows_by_all_walks(self):
        for random, slow in mixed_rows(2, 300, 120):
            for _ in range(4):
                first = random.randint(0, slow.length)
                last = min(slow.length, first + random.randint(0, 2 * slow.settings[2]))
                places = [first] + [place for place in range(first, last + 1) if random.random() < 0.7]
                told = sure_for(slow.row, slow.settings, ranges_of(places))
                self.assertEqual(told, slow.common(places), (slow.told, places))

    def test_great_rows(self):
        unit = 10 ** 27
        settings = (unit, 2 * unit, 3 * unit)
        row = Row(200 * unit, [60 * unit, 90 * unit + 1], [60 * unit])
        self.assertEqual(sure_for(row, settings, [(0, 2 * unit)]), 60 * unit)
        self.assertEqual(sure_for(row, settings, [(0, 2 * unit + 1)]), 200 * unit)
        self.assertEqual(sure_for(row, settings, [(0, 1), (3 * unit, 5 * unit), (60 * unit, 60 * unit)]), 60 * unit)
        self.assertEqual(sure_for(row, settings, [(0, 3 * unit)]), 200 * unit)
        row = Row(200 * unit, [60 * unit, 90 * unit + 1], [60 * unit, 90 * unit + 1])
        self.assertEqual(sure_for(row, settings, [(0, 2 * unit + 1)]), 200 * unit)
        self.assertEqual(sure_for(row, settings, [(1, 1), (2 * unit + 2, 2 * unit + 2)]), 200 * unit)
        # Those that do not have 60 units come to 89 units and up, the others to 90.
        row = Row(200 * unit, [60 * unit, 91 * unit], [60 * unit, 91 * unit])
        self.assertEqual(sure_for(row, settings, [(0, 2 * unit + 1)]), 91 * unit)
        self.assertEqual(sure_for(row, settings, [(2 * unit + 1, 3 * unit - 1)]), 91 * unit)


class PartnersTest(unittest.TestCase):
    def check(self, slow, start):
        before = slow.walks[start][:-1]
        expected = ranges_of(other for other in range(slow.length + 1) if set(before) & set(slow.walks[other]))
        self.assertEqual(partners(slow.row, slow.settings, start), expected, (slow.told, start))

    def test_the_example(self):
        self.assertEqual(partners(EXAMPLE, SETTINGS, 4), [(4, 6), (8, 9), (13, 13), (18, 18)])
        self.assertEqual(partners(EXAMPLE, SETTINGS, 18), [(4, 6), (8, 9), (13, 13), (18, 18)])
        self.assertEqual(partners(EXAMPLE, SETTINGS, 0), [(0, 3), (7, 7), (12, 12), (17, 17)])

    def test_starts_that_meet_others_at_the_end_alone(self):
        self.assertEqual(partners(EXAMPLE, SETTINGS, 16), [(11, 11), (16, 16)])
        self.assertEqual(partners(EXAMPLE, SETTINGS, 11), [(11, 11), (16, 16)])
        self.assertEqual(partners(Row(9, [], []), (2, 4, 5), 1), [(1, 1), (6, 6)])
        self.assertEqual(partners(Row(9, [], []), (2, 4, 5), 5), [(0, 0), (5, 5)])
        self.assertEqual(partners(Row(4, [], []), (2, 4, 5), 3), [(3, 3)])
        self.assertEqual(partners(Row(1, [], []), (2, 4, 5), 0), [(0, 0)])

    def test_the_end(self):
        self.assertEqual(partners(EXAMPLE, SETTINGS, 20), [])
        self.assertEqual(partners(Row(1, [], []), (1, 1, 1), 1), [])

    def test_small_rows_by_walking_from_every_start(self):
        for slow in slow_rows(6, 4):
            for start in range(slow.length + 1):
                self.check(slow, start)

    def test_mixed_rows_by_walking_from_every_start(self):
        for _, slow in mixed_rows(3, 100, 120):
            for start in range(slow.length + 1):
                self.check(slow, start)

    def test_great_rows(self):
        unit = 10 ** 27
        settings = (unit, 2 * unit, 3 * unit)
        row = Row(9 * unit, [6 * unit], [6 * unit])
        self.assertEqual(partners(row, settings, 1), [(0, 2 * unit), (3 * unit, 5 * unit), (6 * unit, 6 * unit)])
        self.assertEqual(partners(row, settings, 6 * unit), [(0, 2 * unit), (3 * unit, 5 * unit), (6 * unit, 6 * unit)])
        later = [(2 * unit + 1, 2 * unit + 1), (5 * unit + 1, 5 * unit + 1), (8 * unit + 1, 8 * unit + 1)]
        for start, _ in later:
            self.assertEqual(partners(row, settings, start), later)
        self.assertEqual(partners(row, settings, 9 * unit), [])
        last = [(3 * unit - 1, 3 * unit - 1), (6 * unit - 1, 6 * unit - 1), (9 * unit - 1, 9 * unit - 1)]
        self.assertEqual(partners(row, settings, 9 * unit - 1), last)


class ResultTest(unittest.TestCase):
    def test_lists_are_new_and_arguments_stay(self):
        for function, cut in [(basin, 8), (basin, 0), (basin, 20), (partners, 4), (partners, 20)]:
            first, second = function(EXAMPLE, SETTINGS, cut), function(EXAMPLE, SETTINGS, cut)
            self.assertEqual(first, second)
            self.assertIsNot(first, second)
            self.assertIs(type(first), list)
            self.assertTrue(all(type(pair) is tuple for pair in first))
            first.append((1, 1))
            self.assertEqual(function(EXAMPLE, SETTINGS, cut), second)
        ranges = [(4, 6), (8, 9)]
        self.assertEqual(sure_for(EXAMPLE, SETTINGS, ranges), sure_for(EXAMPLE, SETTINGS, ranges))
        self.assertEqual(ranges, [(4, 6), (8, 9)])
        self.assertEqual(EXAMPLE, Row(20, [3, 7, 8, 13], [3, 8]))

    def test_lists_that_are_changed_later(self):
        marks, strict = [3, 7, 8, 13], [3, 8]
        row = Row(20, marks, strict)
        marks.clear()
        strict.clear()
        row.strict.clear()
        self.assertEqual(basin(row, SETTINGS, 8), [(4, 6), (8, 8)])
        self.assertEqual(partners(row, SETTINGS, 16), [(11, 11), (16, 16)])

    def test_results_may_be_passed_again(self):
        for slow in slow_rows(4, 3):
            for cut in range(slow.length + 1):
                self.assertEqual(sure_for(slow.row, slow.settings, basin(slow.row, slow.settings, cut)), cut)

    def test_arguments_by_name(self):
        self.assertEqual(basin(cut=8, settings=SETTINGS, row=EXAMPLE), [(4, 6), (8, 8)])
        self.assertEqual(share(cut=8, settings=SETTINGS, row=EXAMPLE), 4)
        self.assertEqual(sure_for(ranges=[(4, 6)], settings=SETTINGS, row=EXAMPLE), 8)
        self.assertEqual(partners(start=16, settings=SETTINGS, row=EXAMPLE), [(11, 11), (16, 16)])


if __name__ == "__main__":
    unittest.main()
