"""Points [2], [3] and [6]: rows."""

import unittest

from cutwalks.errors import CutError, InvalidChange, InvalidKind, InvalidPlace, InvalidRow
from cutwalks.rows import Row
from model import GREAT, NO_INTEGERS, ODD_THINGS
from model import ascending_lists, changed_by_definition, small_rows, wrong_lists

EXAMPLE = (20, [3, 7, 8, 13], [3, 8])


def parts(row):
    return row.length, row.marks, row.strict


def many(count, step=1, first=1):
    """count places, from first on, each step behind the one before."""
    return [first + step * number for number in range(count)]


class RowTest(unittest.TestCase):
    def test_properties(self):
        row = Row(*EXAMPLE)
        self.assertEqual(parts(row), EXAMPLE)
        self.assertEqual(parts(Row(1, [], [])), (1, [], []))
        self.assertEqual(parts(Row(2, [1], [])), (2, [1], []))
        self.assertEqual(parts(Row(2, [1], [1])), (2, [1], [1]))
        self.assertEqual(parts(Row(GREAT, [1, GREAT - 1], [GREAT - 1])), (GREAT, [1, GREAT - 1], [GREAT - 1]))
        self.assertIs(type(row.marks), list)
        self.assertIs(type(row.strict), list)

    def test_arguments_by_name(self):
        self.assertEqual(parts(Row(strict=[2], marks=[2, 4], length=5)), (5, [2, 4], [2]))

    def test_all_small_rows(self):
        for length, marks, strict in small_rows(6):
            row = Row(length, marks, strict)
            self.assertEqual(parts(row), (length, marks, strict))
            self.assertEqual(len(row), len(marks))
            for place in range(-1, length + 2):
                self.assertIs(place in row, place in marks)

    def test_length_of_rows(self):
        for length in [0, -1, -5, -GREAT]:
            with self.assertRaises(InvalidRow):
                Row(length, [], [])
        for length in [1, 2, 3]:
            self.assertEqual(Row(length, [], []).length, length)

    def test_marks_that_are_any_object(self):
        for marks in wrong_lists(1, 4):
            with self.assertRaises(InvalidRow, msg=repr(marks)):
                Row(5, marks, [])
        for marks in [[0], [5], [0, 5], [2, 2], [3, 2], [1, 4, 3], [2, 1], [1, 2, 2], [-1, 1], [1, 6]]:
            with self.assertRaises(InvalidRow, msg=repr(marks)):
                Row(5, marks, [])
        for marks in [[1], [0], [2]]:
            with self.assertRaises(InvalidRow):
                Row(1, marks, [])
        for marks in [[], [1], [4], [1, 4], [1, 2, 3, 4]]:
            self.assertEqual(Row(5, marks, []).marks, marks)

    def test_strict_that_is_any_object(self):
        for strict in wrong_lists(1, 4):
            with self.assertRaises(InvalidRow, msg=repr(strict)):
                Row(5, [1, 2, 3, 4], strict)
        for strict in [[1], [3], [2, 3], [2, 2], [4, 2], [2, 4, 4], [5], [0], [2, 5], [0, 2], [1, 2, 4]]:
            with self.assertRaises(InvalidRow, msg=repr(strict)):
                Row(5, [2, 4], strict)
        for strict in [[1], [0], [4]]:
            with self.assertRaises(InvalidRow):
                Row(5, [], strict)
        for strict in [[], [2], [4], [2, 4]]:
            self.assertEqual(Row(5, [2, 4], strict).strict, strict)
        for strict in [[2, 4], [4, 5], [1, 9], [3, 5, 8], [3, 4, 5], [9]]:
            with self.assertRaises(InvalidRow, msg=repr(strict)):
                Row(10, [3, 5, 7], strict)

    def test_several_wrong_arguments(self):
        for arguments in [(0, [3], [5]), (0, None, None), (5, "", "x"), (5, [5], [True])]:
            with self.assertRaises(InvalidRow):
                Row(*arguments)

    def test_four_hundred_marks(self):
        for step in [1, 7, 10 ** 27]:
            marks = many(400, step)
            self.assertEqual(parts(Row(401 * step, marks, marks)), (401 * step, marks, marks))
            self.assertEqual(len(Row(401 * step, marks, [])), 400)
            with self.assertRaises(InvalidRow):
                Row(402 * step, many(401, step), [])
            with self.assertRaises(InvalidRow):
                Row(402 * step, many(401, step), many(401, step))
        with self.assertRaises(InvalidRow):
            Row(4000, many(3999), [])

    def test_any_object_in_a_row(self):
        row = Row(5, [1, 3], [3])
        for place in [1, 3]:
            self.assertIs(place in row, True)
        for thing in ODD_THINGS + NO_INTEGERS + [0, 2, 4, 5, 6, -1, -3, GREAT, "3", [3], (3,), row, {"3": 3}]:
            self.assertIs(thing in row, False)
        self.assertIs(GREAT - 1 in Row(GREAT, [GREAT - 1], []), True)
        self.assertIs(False in Row(5, [], []), False)

    def test_rows_and_any_object(self):
        row = Row(5, [1, 3], [3])
        self.assertIs(row == row, True)
        self.assertIs(row == Row(5, [1, 3], [3]), True)
        self.assertIs(row != Row(5, [1, 3], [3]), False)
        others = [Row(6, [1, 3], [3]), Row(5, [1, 3], []), Row(5, [1, 3], [1]), Row(5, [1, 3], [1, 3])]
        others += [Row(5, [1, 4], []), Row(5, [3], [3]), Row(5, [1, 2, 3], [3]), Row(5, [2, 3], [3]), Row(4, [1, 3], [3])]
        others += ODD_THINGS + NO_INTEGERS + [0, 5, (5, [1, 3], [3]), [5, [1, 3], [3]], [row], {"row": row}]
        for other in others:
            self.assertIs(row == other, False, repr(other))
            self.assertIs(other == row, False, repr(other))
            self.assertIs(row != other, True, repr(other))
        self.assertIs(Row(GREAT, [5], []) == Row(GREAT, [5], []), True)
        self.assertIs(Row(GREAT, [5], []) == Row(GREAT - 1, [5], []), False)

    def test_rows_in_lists_are_compared_as_python_does(self):
        self.assertEqual([Row(2, [], [])], [Row(2, [], [])])
        self.assertIn(Row(3, [1], []), ODD_THINGS)
        self.assertNotIn(Row(3, [2], []), ODD_THINGS)

    def test_lists_that_were_passed_may_change(self):
        marks, strict = [1, 3], [3]
        row = Row(5, marks, strict)
        marks.append(4)
        strict[0] = 1
        self.assertEqual(parts(row), (5, [1, 3], [3]))
        both = [1, 3]
        row = Row(5, both, both)
        both.clear()
        self.assertEqual(parts(row), (5, [1, 3], [1, 3]))
        self.assertIsNot(row.marks, row.strict)

    def test_lists_that_are_returned_are_new(self):
        row = Row(5, [1, 3], [3])
        for read in [lambda: row.marks, lambda: row.strict]:
            first, second = read(), read()
            self.assertIsNot(first, second)
            first.append(4)
            first[0] = 2
            self.assertEqual(read(), second)
        row.marks.append(2)
        self.assertEqual(len(row), 2)
        self.assertIs(2 in row, False)
        self.assertEqual(row, Row(5, [1, 3], [3]))


class MarkingTest(unittest.TestCase):
    def test_with_marks_of_both_strengths(self):
        row = Row(10, [3, 5], [5])
        self.assertEqual(row.with_marks([7], False), Row(10, [3, 5, 7], [5]))
        self.assertEqual(row.with_marks([7], True), Row(10, [3, 5, 7], [5, 7]))
        self.assertEqual(row.with_marks([3], True), Row(10, [3, 5], [3, 5]))
        self.assertEqual(row.with_marks([5], False), Row(10, [3, 5], []))
        self.assertEqual(row.with_marks([3], False), row)
        self.assertEqual(row.with_marks([5], True), row)
        self.assertEqual(row.with_marks([], True), row)
        self.assertEqual(row.with_marks([], False), row)
        self.assertEqual(row.with_marks([9, 1, 5, 1, 9, 9], False), Row(10, [1, 3, 5, 9], []))
        self.assertEqual(row.with_marks([9, 1, 3, 1, 9, 9], True), Row(10, [1, 3, 5, 9], [1, 3, 5, 9]))
        self.assertEqual(row.with_marks([3], True).with_marks([3], False), row)
        self.assertEqual(Row(1, [], []).with_marks([], True), Row(1, [], []))

    def test_with_and_without_marks_in_small_rows(self):
        for length, marks, strict in small_rows(5):
            row = Row(length, marks, strict)
            for places in ascending_lists(1, length - 1):
                passed = places[::-1] + places
                rest = [mark for mark in marks if mark not in places]
                firm = [mark for mark in strict if mark not in places]
                self.assertEqual(parts(row.without_marks(passed)), (length, rest, firm))
                together = sorted(rest + places)
                self.assertEqual(parts(row.with_marks(passed, False)), (length, together, firm))
                self.assertEqual(parts(row.with_marks(passed, True)), (length, together, sorted(firm + places)))

    def test_without_marks(self):
        row = Row(10, [3, 5, 8], [5])
        self.assertEqual(row.without_marks([]), row)
        self.assertEqual(row.without_marks([1, 9, 4]), row)
        self.assertEqual(row.without_marks([8, 3, 3, 8, 1]), Row(10, [5], [5]))
        self.assertEqual(row.without_marks([5]), Row(10, [3, 8], []))
        self.assertEqual(row.without_marks([3, 5, 8]), Row(10, [], []))

    def test_places_that_are_any_object(self):
        row = Row(5, [1, 3], [3])
        wrong = wrong_lists(1, 4) + [[0], [5], [1, 2, 5], [3, 0], [1, 1, 0]]
        for places in wrong:
            for call in [lambda: row.with_marks(places, True), lambda: row.with_marks(places, False),
                         lambda: row.without_marks(places)]:
                with self.assertRaises(InvalidPlace, msg=repr(places)):
                    call()
        with self.assertRaises(InvalidPlace):
            Row(1, [], []).with_marks([1], True)
        with self.assertRaises(InvalidPlace):
            Row(1, [], []).without_marks([0])
        self.assertEqual(row, Row(5, [1, 3], [3]))

    def test_four_hundred_marks_and_more(self):
        row = Row(1000, many(399, 2), [])
        self.assertEqual(len(row.with_marks([800], True)), 400)
        self.assertEqual(len(row.with_marks([1, 3, 5, 800, 800], False)), 400)
        full = row.with_marks([800], True)
        self.assertEqual(full.with_marks([800, 1], False).marks, full.marks)
        self.assertEqual(full.with_marks(full.marks, True).strict, full.marks)
        for is_strict in [True, False]:
            with self.assertRaises(InvalidRow):
                row.with_marks([800, 802], is_strict)
            with self.assertRaises(InvalidRow):
                full.with_marks([2], is_strict)
            with self.assertRaises(InvalidRow):
                Row(1000, [], []).with_marks(many(401), is_strict)
            self.assertEqual(len(Row(1000, [], []).with_marks(many(400) * 3, is_strict)), 400)
        self.assertEqual(full.without_marks(many(999)).marks, [])
        with self.assertRaises(InvalidPlace):
            full.with_marks([2, 1000], True)

    def test_places_stay_as_they_were_passed(self):
        row = Row(5, [1, 3], [3])
        places = [4, 2, 4]
        marked = row.with_marks(places, True)
        bare = row.without_marks(places)
        self.assertEqual(places, [4, 2, 4])
        places.append(1)
        self.assertEqual(marked, Row(5, [1, 2, 3, 4], [2, 3, 4]))
        self.assertEqual(bare, row)
        self.assertEqual(parts(row), (5, [1, 3], [3]))

    def test_arguments_by_name(self):
        row = Row(5, [1, 3], [3])
        self.assertEqual(row.with_marks(is_strict=True, places=[2]), Row(5, [1, 2, 3], [2, 3]))
        self.assertEqual(row.without_marks(places=[3]), Row(5, [1], []))
        self.assertEqual(row.joined(kind="none", other=row), Row(10, [1, 3, 6, 8], [3, 8]))
        self.assertEqual(row.part(end=4, begin=1), Row(3, [2], [2]))
        self.assertEqual(row.changed(change=(0, 1, 0, [], [])), Row(4, [2], [2]))

    def test_great_rows(self):
        row = Row(GREAT, [1, GREAT - 2], [1])
        self.assertEqual(row.with_marks([GREAT - 1, 2], True), Row(GREAT, [1, 2, GREAT - 2, GREAT - 1], [1, 2, GREAT - 1]))
        self.assertEqual(row.without_marks([GREAT - 2, GREAT - 1]), Row(GREAT, [1], [1]))
        for place in [0, GREAT]:
            with self.assertRaises(InvalidPlace):
                row.with_marks([place], True)
            with self.assertRaises(InvalidPlace):
                row.without_marks([place])


class JoiningTest(unittest.TestCase):
    def test_each_kind(self):
        one, other = Row(4, [1, 3], [3]), Row(3, [1, 2], [1])
        self.assertEqual(one.joined(other, "none"), Row(7, [1, 3, 5, 6], [3, 5]))
        self.assertEqual(one.joined(other, "plain"), Row(7, [1, 3, 4, 5, 6], [3, 5]))
        self.assertEqual(one.joined(other, "strict"), Row(7, [1, 3, 4, 5, 6], [3, 4, 5]))
        self.assertEqual(other.joined(one, "strict"), Row(7, [1, 2, 3, 4, 6], [1, 3, 6]))
        self.assertEqual(Row(1, [], []).joined(Row(1, [], []), "strict"), Row(2, [1], [1]))
        self.assertEqual(Row(1, [], []).joined(Row(1, [], []), "plain"), Row(2, [1], []))
        self.assertEqual(Row(1, [], []).joined(Row(1, [], []), "none"), Row(2, [], []))
        self.assertEqual(one.joined(one, "none"), Row(8, [1, 3, 5, 7], [3, 7]))
        self.assertEqual(parts(one), (4, [1, 3], [3]))
        self.assertEqual(parts(other), (3, [1, 2], [1]))

    def test_wrong_kinds(self):
        row = Row(4, [1, 3], [3])
        for kind in ["", "None", "PLAIN", "Strict", " none", "plain ", "stric", "strict!", "none\n", "0", "noneplain"]:
            with self.assertRaises(InvalidKind, msg=kind):
                row.joined(row, kind)

    def test_four_hundred_marks_and_more(self):
        half = Row(201, many(200), many(200))
        less = Row(201, many(199), [])
        self.assertEqual(len(half.joined(half, "none")), 400)
        self.assertEqual(len(half.joined(less, "plain")), 400)
        self.assertEqual(len(less.joined(half, "strict")), 400)
        for kind in ["plain", "strict"]:
            with self.assertRaises(InvalidRow):
                half.joined(half, kind)
        full = Row(401, many(400), [])
        with self.assertRaises(InvalidRow):
            full.joined(Row(2, [1], []), "none")
        self.assertEqual(len(full.joined(Row(2, [], []), "none")), 400)
        with self.assertRaises(InvalidKind):
            full.joined(full, "both")

    def test_great_rows(self):
        row = Row(GREAT, [1, GREAT - 1], [1])
        joined = row.joined(row, "plain")
        self.assertEqual(parts(joined), (2 * GREAT, [1, GREAT - 1, GREAT, GREAT + 1, 2 * GREAT - 1], [1, GREAT + 1]))


class PartTest(unittest.TestCase):
    def test_all_parts_of_small_rows(self):
        for length, marks, strict in small_rows(5):
            row = Row(length, marks, strict)
            for begin in range(-1, length + 2):
                for end in range(-1, length + 2):
                    if not 0 <= begin < end <= length:
                        with self.assertRaises(InvalidPlace):
                            row.part(begin, end)
                        continue
                    inner = [place for place in range(begin + 1, end)]
                    self.assertEqual(parts(row.part(begin, end)), (
                        end - begin,
                        [place - begin for place in inner if place in marks],
                        [place - begin for place in inner if place in strict]))

    def test_part_of_the_example(self):
        row = Row(*EXAMPLE)
        self.assertEqual(row.part(0, 20), row)
        self.assertEqual(row.part(3, 13), Row(10, [4, 5], [5]))
        self.assertEqual(row.part(2, 14), Row(12, [1, 5, 6, 11], [1, 6]))
        self.assertEqual(row.part(19, 20), Row(1, [], []))

    def test_parts_joined_are_the_row(self):
        row = Row(*EXAMPLE)
        for place in range(1, 20):
            kind = "strict" if place in row.strict else "plain" if place in row else "none"
            self.assertEqual(row.part(0, place).joined(row.part(place, 20), kind), row)

    def test_great_rows(self):
        row = Row(GREAT, [1, GREAT - 1], [1])
        self.assertEqual(row.part(1, GREAT), Row(GREAT - 1, [GREAT - 2], []))
        for begin, end in [(0, GREAT + 1), (GREAT, GREAT), (GREAT, GREAT - 1), (-1, 5), (GREAT, GREAT + 1)]:
            with self.assertRaises(InvalidPlace):
                row.part(begin, end)


class ChangeTest(unittest.TestCase):
    def check(self, row, change, expected):
        self.assertEqual(parts(row.changed(change)), expected)

    def test_the_example(self):
        row = Row(*EXAMPLE)
        self.check(row, (4, 6, 3, [2], []), (21, [3, 6, 8, 9, 14], [3, 9]))

    def test_at_the_begin(self):
        row = Row(10, [2, 5, 8], [5])
        self.check(row, (0, 0, 2, [1, 2], [2]), (12, [1, 2, 4, 7, 10], [2, 7]))
        self.check(row, (0, 2, 0, [], []), (8, [3, 6], [3]))
        self.check(row, (0, 1, 1, [1], [1]), (10, [1, 2, 5, 8], [1, 5]))

    def test_at_the_end(self):
        row = Row(10, [2, 5, 8], [5])
        self.check(row, (10, 10, 3, [1, 2], [1]), (13, [2, 5, 8, 11, 12], [5, 11]))
        self.check(row, (7, 10, 0, [], []), (7, [2, 5], [5]))
        self.check(row, (8, 10, 2, [1], [1]), (10, [2, 5, 8, 9], [5, 9]))
        self.check(row, (10, 10, 0, [], []), (10, [2, 5, 8], [5]))

    def test_no_cells_taken_out(self):
        row = Row(10, [2, 5, 8], [5])
        self.check(row, (5, 5, 2, [1, 2], [1]), (12, [2, 5, 6, 7, 10], [5, 6]))
        self.check(row, (4, 4, 2, [2], []), (12, [2, 6, 7, 10], [7]))
        self.check(row, (5, 5, 0, [], []), (10, [2, 5, 8], [5]))

    def test_all_cells_taken_out(self):
        row = Row(10, [2, 5, 8], [5])
        self.check(row, (0, 10, 1, [], []), (1, [], []))
        self.check(row, (0, 10, 4, [1, 3], [3]), (4, [1, 3], [3]))

    def test_none_put_in(self):
        row = Row(10, [2, 5, 8], [5])
        self.check(row, (3, 6, 0, [], []), (7, [2, 5], []))
        self.check(row, (5, 7, 0, [], []), (8, [2, 5, 6], [5]))
        self.check(row, (3, 5, 0, [], []), (8, [2, 6], []))

    def test_a_mark_at_begin_stays_and_one_at_end_goes(self):
        row = Row(10, [2, 5, 8], [2, 5])
        self.check(row, (2, 5, 3, [], []), (10, [2, 8], [2]))
        self.check(row, (2, 5, 3, [3], []), (10, [2, 5, 8], [2]))
        self.check(row, (2, 5, 3, [1, 3], [3]), (10, [2, 3, 5, 8], [2, 5]))
        self.check(row, (2, 6, 3, [], []), (9, [2, 7], [2]))
        self.check(row, (2, 4, 2, [], []), (10, [2, 5, 8], [2, 5]))

    def test_an_old_mark_that_comes_to_the_end_is_none(self):
        row = Row(10, [2, 5, 8], [5])
        self.check(row, (5, 10, 0, [], []), (5, [2], []))
        self.check(row, (8, 10, 0, [], []), (8, [2, 5], [5]))
        self.check(row, (5, 10, 1, [], []), (6, [2, 5], [5]))
        self.check(row, (6, 10, 0, [], []), (6, [2, 5], [5]))

    def test_marks_of_the_change_do_not_stand_at_the_end_of_the_row(self):
        row = Row(10, [2, 5, 8], [5])
        for change in [(5, 10, 3, [3], []), (5, 10, 3, [1, 3], [3]), (10, 10, 1, [1], []), (0, 10, 1, [1], [1])]:
            with self.assertRaises(InvalidChange, msg=repr(change)):
                row.changed(change)
        self.check(row, (5, 10, 3, [2], [2]), (8, [2, 5, 7], [5, 7]))
        self.check(row, (5, 9, 3, [3], [3]), (9, [2, 5, 8], [5, 8]))

    def test_all_changes_of_small_rows(self):
        for length, marks, strict in small_rows(4):
            row = Row(length, marks, strict)
            for begin in range(length + 1):
                for end in range(begin, length + 1):
                    for new_cells in range(3):
                        self.check_changes(row, begin, end, new_cells)

    def check_changes(self, row, begin, end, new_cells):
        last = new_cells - 1 if end == row.length else new_cells
        for marks in ascending_lists(1, last):
            for strict in ([], marks[:1], marks[1:]):
                change = (begin, end, new_cells, marks, strict)
                length, found = changed_by_definition(row.length, row.marks, row.strict, change)
                if length == 0:
                    with self.assertRaises(InvalidChange):
                        row.changed(change)
                    continue
                places = sorted(found)
                self.check(row, change, (length, places, [place for place in places if found[place]]))

    def test_wrong_changes(self):
        row = Row(6, [2, 4], [2])
        for change in self.wrong_changes():
            with self.assertRaises(InvalidChange, msg=repr(change)):
                row.changed(change)
        self.assertEqual(parts(row), (6, [2, 4], [2]))

    def wrong_changes(self):
        yield from ODD_THINGS + [0, 1, (), [], (1, 3), (1, 3, 2), (1, 3, 2, []), (1, 3, 2, [], [], [])]
        yield [1, 3, 2, [], []]
        yield ((1, 3, 2, [], []),)
        for thing in NO_INTEGERS:
            yield (thing, 3, 2, [], [])
            yield (1, thing, 2, [], [])
            yield (1, 3, thing, [], [])
        yield from [(True, 3, 2, [], []), (0, True, 2, [], []), (False, 3, 2, [], []), (1, 3, True, [], [])]
        yield from [(-1, 3, 2, [], []), (3, 1, 2, [], []), (1, 7, 2, [], []), (7, 7, 2, [], []), (1, 3, -1, [], [])]
        yield from [(0, 6, 0, [], []), (-2, -1, 2, [], []), (7, 6, 2, [], []), (GREAT, GREAT, 1, [], [])]
        for marks in wrong_lists(1, 2) + [[0], [3], [1, 1], [2, 1], [1, 2, 3], [2, 2]]:
            yield (1, 3, 2, marks, [])
        for strict in wrong_lists(1, 2) + [[0], [3], [1, 1], [2, 1], [1, 2, 3]]:
            yield (1, 3, 2, [1, 2], strict)
        yield from [(1, 3, 2, [1], [2]), (1, 3, 2, [], [1]), (1, 3, 2, [2], [1, 2]), (1, 3, 2, [2], [1])]
        yield from [(1, 3, 0, [1], []), (1, 3, 0, [0], []), (1, 3, 0, [], [1]), (6, 6, 0, [1], [])]

    def test_four_hundred_marks_and_more(self):
        full = Row(2000, many(400, 2), [])
        self.assertEqual(len(full.changed((0, 2, 2, [1], []))), 400)
        self.assertEqual(len(full.changed((1000, 1000, 5, [], []))), 400)
        self.assertEqual(len(full.changed((2, 4, 2, [1], [1]))), 400)
        self.assertEqual(len(full.changed((0, 2000, 401, many(400), many(400)))), 400)
        for change in [(1000, 1000, 1, [1], []), (2, 4, 2, [1, 2], [1]), (1999, 1999, 500, many(400), [])]:
            with self.assertRaises(InvalidRow):
                full.changed(change)
        less = full.without_marks([799])
        self.assertEqual(len(less.changed((1000, 1000, 1, [1], []))), 400)
        with self.assertRaises(InvalidRow):
            less.changed((1000, 1000, 2, [1, 2], []))

    def test_four_hundred_marks_of_a_change(self):
        row = Row(10, [], [])
        self.assertEqual(len(row.changed((2, 3, 1000, many(400), many(400)))), 400)
        with self.assertRaises(InvalidChange):
            row.changed((2, 3, 1000, many(401), []))
        with self.assertRaises(InvalidChange):
            row.changed((2, 3, 1000, many(401), many(401)))
        with self.assertRaises(InvalidChange):
            Row(500, many(400), []).changed((2, 3, 1000, many(401), []))
        with self.assertRaises(InvalidRow):
            Row(10, [1], []).changed((2, 3, 1000, many(400), []))
        self.assertEqual(len(Row(10, [3], []).changed((2, 3, 1000, many(400), []))), 400)

    def test_great_rows(self):
        row = Row(GREAT, [1, GREAT - 1], [GREAT - 1])
        self.check(row, (1, GREAT - 2, GREAT, [GREAT], [GREAT]), (GREAT + 3, [1, GREAT + 1, GREAT + 2], [GREAT + 1, GREAT + 2]))
        self.check(row, (1, GREAT - 1, 0, [], []), (2, [1], []))
        self.check(row, (0, GREAT, 1, [], []), (1, [], []))
        with self.assertRaises(InvalidChange):
            row.changed((0, GREAT, 0, [], []))
        with self.assertRaises(InvalidChange):
            row.changed((0, GREAT + 1, 1, [], []))

    def test_change_and_row_stay_as_they_were(self):
        row = Row(10, [2, 5, 8], [5])
        marks, strict = [1, 2], [2]
        changed = row.changed((4, 6, 3, marks, strict))
        again = row.changed((4, 6, 3, [1, 2], [2]))
        self.assertEqual((marks, strict), ([1, 2], [2]))
        marks.append(3)
        strict.clear()
        self.assertEqual(parts(changed), (11, [2, 5, 6, 9], [6]))
        self.assertEqual(changed, again)
        changed.marks.clear()
        self.assertEqual(parts(row), (10, [2, 5, 8], [5]))

    def test_the_same_list_twice_in_a_change(self):
        both = [1, 2]
        changed = Row(10, [], []).changed((4, 6, 3, both, both))
        both.clear()
        self.assertEqual(parts(changed), (11, [5, 6], [5, 6]))


class ErrorOrderTest(unittest.TestCase):
    def test_the_first_wrong_argument_decides(self):
        full = Row(2000, many(400), [])
        with self.assertRaises(InvalidPlace):
            full.with_marks(many(1999) + [2000], True)
        with self.assertRaises(InvalidChange):
            full.changed((5, 4, 3000, many(400), []))

    def test_rows_are_as_before_after_an_error(self):
        row = Row(5, [1, 3], [3])
        for call in [lambda: row.with_marks([9], True), lambda: row.without_marks([0]), lambda: row.part(4, 4),
                     lambda: row.joined(row, "x"), lambda: row.changed(None)]:
            with self.assertRaises(CutError):
                call()
            self.assertEqual(parts(row), (5, [1, 3], [3]))

    def test_rows_that_methods_return_stand_alone(self):
        row = Row(5, [1, 3], [3])
        for made in [row.with_marks([], True), row.without_marks([]), row.part(0, 5), row.changed((2, 2, 0, [], []))]:
            self.assertEqual(made, row)
            made.marks.append(4)
            self.assertEqual(parts(made), (5, [1, 3], [3]))
            self.assertEqual(parts(row), (5, [1, 3], [3]))


if __name__ == "__main__":
    unittest.main()
