"""Points [11], R3, R4: how many marks are enough, and where the walks from all entries come together."""

import unittest
from itertools import combinations
from random import Random

from cutwalks.errors import InvalidPlace, InvalidSettings, TooLarge
from cutwalks.helpers import fewest_marks, helping_marks, needed, taken
from cutwalks.meetings import entries, sure_cut
from cutwalks.rows import Row
from model import GREAT, mixed_rows, slow_rows, small_settings, wrong_settings
from rounds import Rounds, count, first_place, great_rows, some_places

EXAMPLE = Row(20, [3, 7, 8, 13], [3, 8])
SETTINGS = (2, 4, 5)


def fewest_by_definition(settings, is_strict):
    least, normal, greatest = settings
    if greatest == 1:
        return 0
    each = greatest - (least if is_strict else normal)
    return next((k for k in range(greatest) if k * each >= greatest - 1), None)


class FewestTest(unittest.TestCase):
    def test_the_example(self):
        self.assertEqual(fewest_marks(SETTINGS, True), 2)
        self.assertEqual(fewest_marks(SETTINGS, False), 4)

    def test_a_greatest_of_one(self):
        for is_strict in [True, False]:
            self.assertEqual(fewest_marks((1, 1, 1), is_strict), 0)
            self.assertEqual(helping_marks((1, 1, 1), 7, is_strict), [])

    def test_no_number_is_enough(self):
        for greatest in [2, 3, 10, GREAT]:
            self.assertIsNone(fewest_marks((greatest, greatest, greatest), True))
            self.assertIsNone(fewest_marks((greatest, greatest, greatest), False))
            self.assertIsNone(fewest_marks((1, greatest, greatest), False))
            self.assertEqual(fewest_marks((1, greatest, greatest), True), 1)

    def test_all_small_settings(self):
        for settings in small_settings(12):
            for is_strict in [True, False]:
                expected = fewest_by_definition(settings, is_strict)
                self.assertEqual(fewest_marks(settings, is_strict), expected, settings)
                self.assertIn(type(fewest_marks(settings, is_strict)), (int, type(None)))

    def test_great_settings(self):
        self.assertEqual(fewest_marks((GREAT - 1, GREAT, GREAT), True), GREAT - 1)
        self.assertEqual(fewest_marks((GREAT - 2, GREAT - 1, GREAT), True), (GREAT - 1) // 2)
        self.assertEqual(fewest_marks((GREAT - 2, GREAT - 1, GREAT), False), GREAT - 1)
        self.assertEqual(fewest_marks((1, 10 ** 29, GREAT), True), 1)
        self.assertEqual(fewest_marks((1, 10 ** 29, GREAT), False), 2)
        # Just so that a division leaves no rest, and just so that it does.
        self.assertEqual(fewest_marks((10 ** 29 * 2 - 10 ** 20 + 1, 10 ** 29 * 2, 10 ** 29 * 2 + 1), True), 2 * 10 ** 9)
        self.assertEqual(fewest_marks((10 ** 20 + 2, 10 ** 20 + 3, 2 * 10 ** 20 + 1), True), 3)

    def test_settings_that_are_any_object(self):
        for settings in wrong_settings():
            for is_strict in [True, False]:
                with self.assertRaises(InvalidSettings, msg=repr(settings)):
                    fewest_marks(settings, is_strict)


class HelpingTest(unittest.TestCase):
    def check(self, settings, place, is_strict, behind):
        """That the told marks do what R4 says, and no fewer of them."""
        told = (settings, place, is_strict)
        marks = helping_marks(settings, place, is_strict)
        self.assertEqual(len(marks), fewest_marks(settings, is_strict), told)
        if not marks:
            return
        between = settings[0] if is_strict else settings[1]
        self.assertEqual(marks, [place + settings[2] + number * between for number in range(len(marks))], told)
        length = marks[-1] + behind
        if length > 200 * settings[0]:
            return
        self.assertEqual(sure_cut(self.row(length, marks, is_strict), settings, place), marks[-1], told)
        for number in range(len(marks)):
            fewer = marks[:number] + marks[number + 1:]
            self.assertEqual(sure_cut(self.row(length, fewer, is_strict), settings, place), length, (told, fewer))

    def row(self, length, marks, is_strict):
        return Row(length, marks, marks if is_strict else [])

    def test_small_settings(self):
        for settings in small_settings(8):
            for place in [0, 1, 5]:
                for is_strict in [True, False]:
                    if fewest_marks(settings, is_strict) is not None:
                        for behind in [1, 2, settings[2] - 1, settings[2], 3 * settings[2]]:
                            if behind > 0:
                                self.check(settings, place, is_strict, behind)

    def test_any_fewer_marks_of_any_places(self):
        settings = (2, 3, 5)
        for is_strict, many in [(True, 2), (False, 2)]:
            self.assertEqual(fewest_marks(settings, is_strict), many)
            for mark in range(1, 30):
                row = self.row(30, [mark], is_strict) if mark < 30 else None
                self.assertEqual(sure_cut(row, settings, 0) if mark >= 5 else 30, 30)
        settings = (3, 4, 6)
        self.assertEqual(fewest_marks(settings, False), 3)
        for marks in combinations(range(6, 30), 2):
            self.assertEqual(sure_cut(Row(30, list(marks), []), settings, 0), 30)

    def test_great_settings(self):
        for settings in [(10 ** 28, 2 * 10 ** 28, 10 ** 29), (10 ** 28, 10 ** 28 + 1, 10 ** 28 + 10 ** 27), (9, 10, 11)]:
            for is_strict in [True, False]:
                for place in [0, 1, 10 ** 28]:
                    self.check(settings, place, is_strict, 1)
                    self.check(settings, place, is_strict, 10 ** 28)

    def test_great_places(self):
        self.assertEqual(helping_marks((2, 4, 5), GREAT, True), [GREAT + 5, GREAT + 7])
        self.assertEqual(helping_marks((2, 4, 5), GREAT, False), [GREAT + 5, GREAT + 9, GREAT + 13, GREAT + 17])

    def test_places(self):
        self.assertEqual(helping_marks(SETTINGS, 0, True), [5, 7])
        for place in [-1, -2, -GREAT, True, False]:
            with self.assertRaises(InvalidPlace):
                helping_marks(SETTINGS, place, True)

    def test_four_hundred_marks_and_more(self):
        for greatest, many in [(400, 399), (401, 400), (402, 401)]:
            for is_strict, settings in [(True, (greatest - 1, greatest, greatest)), (False, (1, greatest - 1, greatest))]:
                self.assertEqual(fewest_marks(settings, is_strict), many)
                if many <= 400:
                    self.assertEqual(len(helping_marks(settings, 3, is_strict)), many)
                else:
                    with self.assertRaises(TooLarge):
                        helping_marks(settings, 3, is_strict)
        for settings in [(2, 2, 2), (GREAT, GREAT, GREAT), (GREAT - 1, GREAT, GREAT)]:
            with self.assertRaises(TooLarge):
                helping_marks(settings, 3, True)
            with self.assertRaises(InvalidPlace):
                helping_marks(settings, -1, True)
        with self.assertRaises(TooLarge):
            helping_marks((1, 2, 2), 3, False)

    def test_settings_come_first(self):
        for settings in wrong_settings():
            with self.assertRaises(InvalidSettings, msg=repr(settings)):
                helping_marks(settings, -1, True)

    def test_new_lists_and_names(self):
        first = helping_marks(SETTINGS, 0, False)
        first.append(1)
        self.assertEqual(helping_marks(SETTINGS, 0, False), [5, 9, 13, 17])
        self.assertEqual(helping_marks(is_strict=False, place=0, settings=SETTINGS), [5, 9, 13, 17])
        self.assertEqual(fewest_marks(is_strict=False, settings=SETTINGS), 4)


def taken_by_definition(slow, place):
    """How S gets smaller, place by place."""
    members = set(slow.entries(place))
    found = {}
    for passed in range(place, slow.length):
        if passed in members:
            members.remove(passed)
            cut = slow.next[passed]
            if cut in members:
                found[cut] = found.get(cut, 0) + 1
            members.add(cut)
    assert members == {slow.length}
    return sorted(found.items())


class TakenTest(unittest.TestCase):
    def check(self, slow, place):
        told = (slow.told, place)
        found = taken(slow.row, slow.settings, place)
        self.assertEqual(found, taken_by_definition(slow, place), told)
        many = len(slow.entries(place))
        self.assertEqual(sum(often for _, often in found), many - 1, told)
        least, normal, greatest = slow.settings
        for cut, often in found:
            self.assertTrue(cut in slow.marks or cut == slow.length, told)
            if cut < slow.length:
                self.assertLessEqual(often, greatest - (least if cut in slow.strict else normal), told)
        if found:
            self.assertEqual(found[-1][0], sure_cut(slow.row, slow.settings, place), told)
        each = greatest - least
        expected = 0 if many == 1 else None if each == 0 else -((1 - many) // each)
        self.assertEqual(needed(slow.row, slow.settings, place), expected, told)

    def test_the_example(self):
        self.assertEqual(taken(EXAMPLE, SETTINGS, 4), [(8, 2), (20, 1)])
        self.assertEqual(needed(EXAMPLE, SETTINGS, 4), 1)

    def test_a_place_with_one_entry(self):
        for row, settings, place in [(Row(9, [], []), (1, 1, 1), 4), (Row(9, [5], [5]), (1, 1, 2), 4)]:
            if entries(row, settings, place) == [(place, place)]:
                self.assertEqual(taken(row, settings, place), [])
                self.assertEqual(needed(row, settings, place), 0)
        self.assertEqual(taken(Row(9, [], []), (1, 1, 1), 4), [])
        self.assertEqual(needed(Row(9, [], []), (1, 1, 1), 4), 0)

    def test_least_and_greatest_are_equal(self):
        self.assertEqual(needed(Row(9, [], []), (3, 3, 3), 4), None)
        self.assertEqual(taken(Row(9, [], []), (3, 3, 3), 4), [(9, 2)])
        self.assertEqual(needed(Row(9, [], []), (3, 3, 3), 8), None)
        self.assertEqual(taken(Row(9, [], []), (3, 3, 3), 8), [(9, 1)])

    def test_small_rows(self):
        for slow in slow_rows(6, 4):
            for place in range(slow.length):
                self.check(slow, place)

    def test_mixed_rows(self):
        for random, slow in mixed_rows(51, 500, 60):
            for place in random.sample(range(slow.length), min(5, slow.length)):
                self.check(slow, place)

    def test_great_rows(self):
        for random, rounds in great_rows(52, 120):
            for place in some_places(random, rounds, 3):
                if place < rounds.length:
                    self.check_great(rounds, place)

    def check_great(self, rounds, place):
        """Each number is by how much S gets smaller while y passes the places with this next cut."""
        told = (rounds.told, place)
        found = rounds.entries(place)
        expected = []
        for cut in [mark for mark in rounds.marks if mark > place] + [rounds.length]:
            low = max(place, cut - rounds.settings[2])
            first = first_place(lambda at: rounds.next(at, rounds.marks) >= cut, low, cut)
            behind = first_place(lambda at: rounds.next(at, rounds.marks) > cut, first, cut)
            sizes = [count(rounds.first_cuts(found, place)) for place in (first, behind)]
            if first < behind and sizes[0] > sizes[1]:
                expected.append((cut, sizes[0] - sizes[1]))
        self.assertEqual(taken(rounds.row, rounds.settings, place), expected, told)
        many = count(found)
        each = rounds.settings[2] - rounds.settings[0]
        told_needed = needed(rounds.row, rounds.settings, place)
        if many == 1:
            self.assertEqual(told_needed, 0, told)
        elif each == 0:
            self.assertIsNone(told_needed, told)
        else:
            self.assertTrue((told_needed - 1) * each < many - 1 <= told_needed * each, told)

    def test_greatest_rows(self):
        random = Random(53)
        least = GREAT // 200 + 1
        for settings in [(least, least, least + 1), (least, least, 2 * least), (least, least + 9, least + 10 ** 20)]:
            marks = sorted(random.sample(range(1, 10 ** 9), 400))
            marks = [mark * 10 ** 21 + random.randint(0, 5) for mark in marks]
            row = Row(GREAT, marks, marks[::2])
            found = taken(row, settings, 7)
            self.assertEqual(sum(often for _, often in found), count(entries(row, settings, 7)) - 1)
            self.assertEqual(found[-1][0], sure_cut(row, settings, 7))
            self.check_great(Rounds(Row(GREAT, marks[:12], marks[:12:2]), settings), 7)

    def test_wrong_arguments(self):
        for function in [taken, needed]:
            for settings in wrong_settings():
                with self.assertRaises(InvalidSettings):
                    function(Row(401, [], []), settings, 401)
            for place in [-1, 20, 21, GREAT, -GREAT, True, False]:
                with self.assertRaises(InvalidPlace):
                    function(EXAMPLE, SETTINGS, place)
            with self.assertRaises(InvalidPlace):
                function(Row(401, [], []), SETTINGS, 401)
            with self.assertRaises(TooLarge):
                function(Row(401, [], []), SETTINGS, 400)
            function(Row(400, [], []), SETTINGS, 399)
            self.assertEqual(function(place=4, settings=SETTINGS, row=EXAMPLE), function(EXAMPLE, SETTINGS, 4))
        first = taken(EXAMPLE, SETTINGS, 4)
        first.clear()
        self.assertEqual(taken(EXAMPLE, SETTINGS, 4), [(8, 2), (20, 1)])
        self.assertTrue(all(type(pair) is tuple for pair in taken(EXAMPLE, SETTINGS, 4)))


if __name__ == "__main__":
    unittest.main()
