"""Points [8] to [10] on rows of great lengths, against a second way of working the answers out: see rounds.py."""

import unittest
from random import Random

from cutwalks.meetings import apart, entries, last_apart, meeting, meeting_paper, shows_meeting, sure_cut
from cutwalks.ranges import first_cuts, image
from cutwalks.rows import Row
from cutwalks.starts import basin, partners, share, sure_for
from model import GREAT, next_by_definition, some_row
from rounds import Rounds, count, from_place, great_rows, join, outside, some_places, some_ranges


class SecondWayTest(unittest.TestCase):
    def test_the_second_way_by_the_definitions(self):
        for _, rounds in great_rows(1, 40):
            for place in rounds.turns:
                if 0 <= place < rounds.length:
                    expected = next_by_definition(rounds.length, rounds.marks, rounds.row.strict, rounds.settings, place)
                    self.assertEqual(rounds.next(place, rounds.marks), expected)


class GreatTest(unittest.TestCase):
    def test_images(self):
        for random, rounds in great_rows(2, 150):
            everything = [(0, rounds.length)]
            self.assertEqual(image(rounds.row, rounds.settings, everything), rounds.image(everything), rounds.told)
            for _ in range(3):
                ranges = some_ranges(random, rounds)
                told = image(rounds.row, rounds.settings, ranges)
                self.assertEqual(told, rounds.image(ranges), (rounds.told, ranges))

    def test_first_cuts(self):
        for random, rounds in great_rows(3, 150):
            for _ in range(4):
                ranges = some_ranges(random, rounds)
                last = ranges[-1][1]
                for place in [last] + [place for place in some_places(random, rounds, 3) if place >= last]:
                    told = first_cuts(rounds.row, rounds.settings, ranges, place)
                    self.assertEqual(told, rounds.first_cuts(ranges, place), (rounds.told, ranges, place))

    def test_entries(self):
        for random, rounds in great_rows(4, 200):
            for place in some_places(random, rounds, 8):
                if place < rounds.length:
                    told = entries(rounds.row, rounds.settings, place)
                    self.assertEqual(told, rounds.entries(place), (rounds.told, place))

    def test_meetings(self):
        for random, rounds in great_rows(5, 200):
            for first in some_places(random, rounds, 3):
                for second in some_places(random, rounds, 3):
                    expected = min(set(rounds.walk(first)) & set(rounds.walk(second)))
                    told = meeting(rounds.row, rounds.settings, first, second)
                    self.assertEqual(told, expected, (rounds.told, first, second))

    def test_sure_cuts(self):
        for random, rounds in great_rows(6, 150):
            for place in some_places(random, rounds, 4):
                if place < rounds.length:
                    self.check_sure_cut(rounds, place)

    def check_sure_cut(self, rounds, place):
        told = (rounds.told, place)
        found = rounds.entries(place)
        sure = rounds.common(found)
        self.assertEqual(sure_cut(rounds.row, rounds.settings, place), sure, told)
        latest = last_apart(rounds.row, rounds.settings, place)
        self.assertTrue(any(low <= latest <= high for low, high in found), told)
        if sure == place:
            self.assertEqual((found, latest), ([(place, place)], place), told)
            return
        # All entries below have the cut of the walk that comes before the sure one; this entry has it not.
        before = max(cut for cut in rounds.walk(place) if cut < sure)
        self.assertNotIn(before, rounds.walk(latest), told)
        lesser = [(low, min(high, latest - 1)) for low, high in found if low < latest]
        self.assertEqual(rounds.first_cuts(lesser, max(before, lesser[-1][1])), [(before, before)], told)

    def test_apart(self):
        for random, rounds in great_rows(7, 150):
            for place in some_places(random, rounds, 2):
                for far in some_places(random, rounds, 5):
                    if place < rounds.length and far >= place:
                        expected = count(rounds.first_cuts(rounds.entries(place), far))
                        told = apart(rounds.row, rounds.settings, place, far)
                        self.assertEqual(told, expected, (rounds.told, place, far))

    def test_papers(self):
        for random, rounds in great_rows(8, 150):
            for place in some_places(random, rounds, 4):
                if place < rounds.length:
                    self.check_paper(rounds, place)

    def check_paper(self, rounds, place):
        told = (rounds.told, place)
        entry, k = meeting_paper(rounds.row, rounds.settings, place)
        self.assertEqual(k, rounds.paper(place), told)
        found = rounds.entries(place)
        self.assertTrue(any(low <= entry <= high for low, high in found), told)
        cuts = rounds.walk(place) + [rounds.length] * (k + 2)
        above = [max(low, entry + 1) for low, high in found if high > entry]
        after = above[0] if above else cuts[1]
        self.assertEqual((rounds.walk(entry) + [rounds.length] * k)[k], cuts[k], told)
        self.assertEqual((rounds.walk(after) + [rounds.length] * k)[k], cuts[k + 1], told)
        self.assertFalse(above and cuts[k] == rounds.length, told)
        for number, is_told in [(k, True), (k - 1, False), (k + 1, True), (GREAT, True)]:
            self.assertIs(shows_meeting(rounds.row, rounds.settings, place, (entry, number)), is_told or False, told)

    def test_basins(self):
        for random, rounds in great_rows(9, 120):
            for cut in some_places(random, rounds, 4):
                starts = basin(rounds.row, rounds.settings, cut)
                self.check_starts(rounds, cut, starts)
                self.assertEqual(share(rounds.row, rounds.settings, cut), count(starts), (rounds.told, cut))

    def check_starts(self, rounds, cut, starts, first=0):
        """That exactly these starts, of those from the first one on, have a walk with this cut."""
        told = (rounds.told, cut)
        self.assertEqual(starts, join(starts), told)
        self.assertEqual(starts[-1][1], cut, told)
        self.assertEqual(rounds.first_cuts(from_place(starts, first), cut), [(cut, cut)], told)
        for low, high in rounds.first_cuts(from_place(outside(starts, cut), first), cut):
            self.assertGreater(low, cut, told)

    def test_partners(self):
        for random, rounds in great_rows(10, 120):
            for start in some_places(random, rounds, 3):
                starts = partners(rounds.row, rounds.settings, start)
                if start == rounds.length:
                    self.assertEqual(starts, [])
                else:
                    self.check_starts(rounds, rounds.walk(start)[-2], starts)

    def test_sure_for(self):
        for random, rounds in great_rows(11, 150):
            for _ in range(4):
                ranges = some_ranges(random, rounds)
                near = [(low, high) for low, high in ranges if high <= ranges[0][0] + 3 * rounds.settings[2]] or ranges[:1]
                for pairs in (ranges, near):
                    told = sure_for(rounds.row, rounds.settings, pairs)
                    self.assertEqual(told, rounds.common(pairs), (rounds.told, pairs))


class GreatestTest(unittest.TestCase):
    """Rows as long as walks may be, with as many marks as there may be."""

    def rows(self):
        random = Random(12)
        least = GREAT // 200 + 1
        settings = [(least, least, least + least // 1000), (least, least + 5, 2 * least), (least, GREAT, GREAT)]
        settings += [(least, least, least), (least, least + 10 ** 20, least + 10 ** 24)]
        for some in settings:
            yield random, Rounds(some_row(random, some, GREAT, 400), some)
            marks = sorted(random.sample(range(1, 10 ** 9), 400))
            marks = [mark * 10 ** 21 + random.randint(0, 5) for mark in marks]
            yield random, Rounds(Row(GREAT, marks, marks[::2]), some)
        # All marks stand within the reach of one place.
        marks = [100 * least + number * (least // 500) for number in range(400)]
        yield random, Rounds(Row(GREAT, marks, marks[1::3]), (least, least + least // 7, 3 * least))

    def test_everything(self):
        for random, rounds in self.rows():
            place = random.choice([1, 2, 20]) * rounds.settings[0] + random.randint(0, 9)
            found = rounds.entries(place)
            self.assertEqual(entries(rounds.row, rounds.settings, place), found, rounds.told)
            GreatTest.check_sure_cut(self, rounds, place)
            GreatTest.check_paper(self, rounds, place)
            far = rounds.length - random.randint(0, 2 * rounds.settings[0])
            self.assertEqual(apart(rounds.row, rounds.settings, place, far), count(rounds.first_cuts(found, far)))
            for cut in [rounds.marks[-1], rounds.walk(place)[-2], rounds.length]:
                self.check_basin(rounds, cut, basin(rounds.row, rounds.settings, cut))
            everything = [(0, rounds.length)]
            self.assertEqual(image(rounds.row, rounds.settings, everything), rounds.image(everything))

    def check_basin(self, rounds, cut, starts):
        # Rounds from all starts would take too long, so far ones are tried at the ends of ranges only.
        GreatTest.check_starts(self, rounds, cut, starts, max(cut - 9 * rounds.settings[0], 0))
        for low, high in starts:
            for start, is_told in [(low - 1, False), (low, True), (high, True), (high + 1, False)]:
                if 0 <= start <= rounds.length:
                    self.assertIs(cut in rounds.walk(start), is_told, (rounds.told, cut, start))

    def test_the_first_cuts_of_all_starts(self):
        for _, rounds in self.rows():
            least = rounds.settings[0]
            for place in [50 * least, 150 * least + 7]:
                told = first_cuts(rounds.row, rounds.settings, [(0, place)], place)
                # Each start but the place comes from a place before it, so these are place and next cuts behind it.
                behind = [(max(low, place), high) for low, high in rounds.image([(0, place - 1)]) if high >= place]
                self.assertEqual(told, join([(place, place)] + behind), rounds.told)


if __name__ == "__main__":
    unittest.main()
