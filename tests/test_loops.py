"""Points [3], R6, [13]: loops, the rings that walks come into, and where walks meet."""

import unittest
from itertools import product
from math import gcd
from random import Random

from cutwalks.errors import InvalidLoop, InvalidNumber, InvalidPlace, InvalidSettings
from cutwalks.loops import Loop, loop_meeting, loop_step, mean, never_meet, ring_of, rings, turning
from cutwalks.rows import Row
from model import GREAT, NO_INTEGERS, ODD_THINGS, small_settings, wrong_lists, wrong_settings

EXAMPLE = Loop(7, [0, 3], [3])
SETTINGS = (2, 4, 5)


def small_loops(longest):
    for period in range(1, longest + 1):
        for kinds in product((0, 1, 2), repeat=period):
            marks = [residue for residue, kind in enumerate(kinds) if kind]
            yield Loop(period, marks, [residue for residue in marks if kinds[residue] == 2])


def some_loop(random, longest):
    period = random.randint(1, longest)
    marks = sorted(random.sample(range(period), random.randint(0, min(period, random.choice([1, 2, 5, 40])))))
    firm = random.choice([0, 0.3, 0.7, 1])
    return Loop(period, marks, [mark for mark in marks if random.random() < firm])


def some_loop_settings(random, most):
    return tuple(sorted(random.randint(1, most) for _ in range(3)))


def mixed_loops(seed, many, longest=30, most=40):
    random = Random(seed)
    for _ in range(many):
        yield random, some_loop(random, longest), some_loop_settings(random, most)


def step_by_definition(loop, settings, place):
    """By looking at each place behind, one by one."""
    least, normal, greatest = settings
    for cut in range(place + least, place + greatest):
        residue = cut - cut // loop.period * loop.period
        if residue in loop.strict or residue in loop.marks and cut >= place + normal:
            return cut
    return place + greatest


class Turns:
    """All steps of a loop, and its rings, by walking round from every residue."""

    def __init__(self, loop, settings):
        self.period = loop.period
        self.steps = [step_by_definition(loop, settings, residue) - residue for residue in range(loop.period)]
        self.rings = sorted({tuple(self.ring_of(residue)) for residue in range(loop.period)})
        ring = self.rings[0]
        self.q, self.r = len(ring), sum(self.steps[residue] for residue in ring) // loop.period

    def next(self, place):
        return place + self.steps[place % self.period]

    def ring_of(self, place):
        """The residues that come again behind so many cuts that all must have come again."""
        for _ in range(self.period):
            place = self.next(place)
        found = set()
        for _ in range(self.period):
            place = self.next(place)
            found.add(place % self.period)
        return sorted(found)

    def meeting(self, first, second):
        """By walking on, longer than all pairs of a residue and a distance last."""
        for _ in range(10 * self.period + abs(first - second)):
            if first == second:
                return first
            first, second = sorted([first, second])
            first = self.next(first)
        return None


class LoopTest(unittest.TestCase):
    def test_properties(self):
        self.assertEqual((EXAMPLE.period, EXAMPLE.marks, EXAMPLE.strict), (7, [0, 3], [3]))
        self.assertIs(type(EXAMPLE.marks), list)
        self.assertIsNot(EXAMPLE.marks, EXAMPLE.marks)
        same = [2, 4]
        loop = Loop(7, same, same)
        self.assertIsNot(loop.marks, loop.strict)
        same.append(5)
        loop.marks.clear()
        loop.strict.append(6)
        self.assertEqual((loop.marks, loop.strict), ([2, 4], [2, 4]))
        self.assertEqual(Loop(strict=[3], marks=[0, 3], period=7), EXAMPLE)

    def test_equality_with_any_object(self):
        self.assertTrue(EXAMPLE == Loop(7, [0, 3], [3]))
        self.assertFalse(EXAMPLE != Loop(7, [0, 3], [3]))
        for other in [Loop(8, [0, 3], [3]), Loop(7, [0, 3], []), Loop(7, [0, 3], [0]), Loop(7, [3], [3]), Loop(7, [], [])]:
            self.assertFalse(EXAMPLE == other)
            self.assertTrue(EXAMPLE != other)
        for other in ODD_THINGS + [7, (7, [0, 3], [3]), [7, [0, 3], [3]], [EXAMPLE], Row(7, [3], [3])]:
            self.assertIs(EXAMPLE == other, False)
        self.assertIs(Loop(7, [3], [3]) == Row(7, [3], [3]), False)
        self.assertIs(Row(7, [3], [3]) == Loop(7, [3], [3]), False)
        self.assertTrue([EXAMPLE] == [Loop(7, [0, 3], [3])])

    def test_periods(self):
        for period in [1, 2, 1999, 2000]:
            self.assertEqual(Loop(period, [], []).period, period)
        for period in [0, -1, 2001, GREAT, -GREAT, True, False]:
            with self.assertRaises(InvalidLoop):
                Loop(period, [], [])

    def test_marks_that_are_any_object(self):
        for marks in wrong_lists(0, 6) + [[0, 0], [3, 2], [0, 3, 3], [-1], [7], [0, 7], {"0": 1}, (0, 3)]:
            with self.assertRaises(InvalidLoop, msg=repr(marks)):
                Loop(7, marks, [])
        for marks in [[], [0], [6], [0, 6], list(range(7))]:
            self.assertEqual(Loop(7, marks, []).marks, marks)
            self.assertEqual(Loop(7, marks, marks).strict, marks)

    def test_strict_that_is_any_object(self):
        for strict in wrong_lists(0, 6) + [[1], [0, 1], [3, 0], [0, 0], (0,), [0, 3, 5], [7], [-7]]:
            with self.assertRaises(InvalidLoop, msg=repr(strict)):
                Loop(7, [0, 3], strict)
        for strict in [[], [0], [3], [0, 3]]:
            self.assertEqual(Loop(7, [0, 3], strict).strict, strict)
        with self.assertRaises(InvalidLoop):
            Loop(7, [], [0])

    def test_four_hundred_marks_and_more(self):
        for period in [401, 2000]:
            marks = list(range(401))
            self.assertEqual(len(Loop(period, marks[:400], marks[:400]).marks), 400)
            with self.assertRaises(InvalidLoop):
                Loop(period, marks, [])

    def test_moved(self):
        self.assertEqual(EXAMPLE.moved(0), EXAMPLE)
        self.assertEqual(EXAMPLE.moved(1), Loop(7, [1, 4], [4]))
        self.assertEqual(EXAMPLE.moved(4), Loop(7, [0, 4], [0]))
        self.assertEqual(EXAMPLE.moved(-1), Loop(7, [2, 6], [2]))
        self.assertEqual(EXAMPLE.moved(7), EXAMPLE)
        self.assertEqual(EXAMPLE.moved(-7 * 10 ** 28), EXAMPLE)
        self.assertEqual(EXAMPLE.moved(7 * 10 ** 28 + 1), Loop(7, [1, 4], [4]))
        self.assertEqual(EXAMPLE.moved(-7 * 10 ** 28 - 1), EXAMPLE.moved(6))
        self.assertEqual(EXAMPLE.moved(number=3), Loop(7, [3, 6], [6]))
        for loop in small_loops(4):
            for number in range(-9, 10):
                found = loop.moved(number)
                self.assertEqual(found.marks, sorted((mark + number) % loop.period for mark in loop.marks))
                self.assertEqual(found.strict, sorted((mark + number) % loop.period for mark in loop.strict))
        self.assertEqual(EXAMPLE, Loop(7, [0, 3], [3]))
        for number in [True, False]:
            with self.assertRaises(InvalidNumber):
                EXAMPLE.moved(number)

    def test_repeated(self):
        self.assertEqual(EXAMPLE.repeated(1), EXAMPLE)
        self.assertEqual(EXAMPLE.repeated(3), Loop(21, [0, 3, 7, 10, 14, 17], [3, 10, 17]))
        self.assertEqual(EXAMPLE.repeated(times=2), Loop(14, [0, 3, 7, 10], [3, 10]))
        for times in [0, -1, -GREAT, True, False]:
            with self.assertRaises(InvalidNumber):
                EXAMPLE.repeated(times)
        self.assertEqual(Loop(1, [], []).repeated(2000).period, 2000)
        self.assertEqual(Loop(10, [], []).repeated(200).period, 2000)
        self.assertEqual(len(Loop(5, [1], [1]).repeated(400).marks), 400)
        self.assertEqual(len(Loop(5, [1, 2], []).repeated(200).marks), 400)
        for loop, times in [(Loop(1, [], []), 2001), (Loop(10, [], []), 201), (Loop(1001, [], []), 2), (EXAMPLE, GREAT)]:
            with self.assertRaises(InvalidLoop):
                loop.repeated(times)
        for loop, times in [(Loop(4, [1], [1]), 401), (Loop(5, [1, 2], []), 201), (Loop(900, list(range(201)), []), 2)]:
            with self.assertRaises(InvalidLoop):
                loop.repeated(times)
        self.assertEqual(EXAMPLE, Loop(7, [0, 3], [3]))

    def test_a_repeated_loop_has_the_same_cuts(self):
        for random, loop, settings in mixed_loops(61, 60):
            for place in range(-5, 40):
                self.assertEqual(loop_step(loop.repeated(3), settings, place), loop_step(loop, settings, place))
            self.assertEqual(mean(loop.repeated(3), settings), mean(loop, settings))
            self.assertEqual(never_meet(loop.repeated(3), settings), never_meet(loop, settings))


class StepTest(unittest.TestCase):
    def test_small_loops(self):
        for loop in small_loops(3):
            for settings in small_settings(6):
                for place in range(-loop.period - 1, loop.period + 2):
                    expected = step_by_definition(loop, settings, place)
                    self.assertEqual(loop_step(loop, settings, place), expected, (loop.marks, loop.strict, settings, place))

    def test_mixed_loops(self):
        for random, loop, settings in mixed_loops(62, 300):
            for place in [0, -1, 1] + [random.randint(-99, 99) for _ in range(9)]:
                told = (loop.period, loop.marks, loop.strict, settings, place)
                expected = step_by_definition(loop, settings, place)
                self.assertEqual(loop_step(loop, settings, place), expected, told)
                far = place + random.choice([-1, 1]) * loop.period * 10 ** 28
                self.assertEqual(loop_step(loop, settings, far), far + expected - place, told)

    def test_a_greatest_above_the_period(self):
        loop = Loop(3, [1], [1])
        self.assertEqual(loop_step(loop, (5, 5, 2000), 0), 7)
        self.assertEqual(loop_step(loop, (1999, 1999, 2000), 0), 1999)
        self.assertEqual(loop_step(loop, (1998, 1998, 2000), 0), 1999)
        self.assertEqual(loop_step(loop, (2000, 2000, 2000), 0), 2000)
        self.assertEqual(loop_step(Loop(3, [], []), (1, 1, 2000), -5), 1995)

    def test_the_places_of_a_mark(self):
        loop = Loop(2000, [0, 1999], [0])
        self.assertEqual(loop_step(loop, (1, 2, 3), -1), 0)
        self.assertEqual(loop_step(loop, (1, 2, 3), -2), 0)
        self.assertEqual(loop_step(loop, (1, 1, 3), -2), -1)
        self.assertEqual(loop_step(loop, (1, 2, 3), -3), -1)
        self.assertEqual(loop_step(loop, (1, 2, 3), 0), 3)


class RingTest(unittest.TestCase):
    def check(self, random, loop, settings):
        told = (loop.period, loop.marks, loop.strict, settings)
        turns = Turns(loop, settings)
        self.assertEqual(rings(loop, settings), [list(ring) for ring in turns.rings], told)
        self.assertEqual(turning(loop, settings), (turns.q, turns.r), told)
        for ring in turns.rings:
            self.assertEqual(len(ring), turns.q, told)
            self.assertEqual(sum(turns.steps[residue] for residue in ring), turns.r * loop.period, told)
        top, bottom = mean(loop, settings)
        self.assertEqual(top * turns.q, turns.r * loop.period * bottom, told)
        self.assertEqual(gcd(top, bottom), 1, told)
        self.assertGreater(bottom, 0, told)
        self.assertEqual(never_meet(loop, settings), len(turns.rings) * turns.r, told)
        for place in [random.randint(-3 * loop.period, 3 * loop.period) for _ in range(3)]:
            far = place + loop.period * random.choice([-10 ** 27, 10 ** 27])
            self.assertEqual(ring_of(loop, settings, place), turns.ring_of(place), told)
            self.assertEqual(ring_of(loop, settings, far), turns.ring_of(place), told)

    def test_the_examples(self):
        self.assertEqual(rings(Loop(7, [0], [0]), SETTINGS), [[0, 5]])
        self.assertEqual(turning(Loop(7, [0], [0]), SETTINGS), (2, 1))
        self.assertEqual(rings(Loop(7, [0], []), SETTINGS), [[0, 3, 5]])
        self.assertEqual(turning(Loop(7, [0], []), SETTINGS), (3, 2))
        self.assertEqual(mean(Loop(7, [0], [0]), SETTINGS), (7, 2))
        self.assertEqual(mean(Loop(7, [0], []), SETTINGS), (14, 3))
        self.assertEqual(never_meet(Loop(7, [0], [0]), SETTINGS), 1)
        self.assertEqual(never_meet(Loop(7, [0], []), SETTINGS), 2)

    def test_loops_without_marks(self):
        loop = Loop(6, [], [])
        self.assertEqual(rings(loop, (1, 2, 4)), [[0, 2, 4], [1, 3, 5]])
        self.assertEqual(turning(loop, (1, 2, 4)), (3, 2))
        self.assertEqual(mean(loop, (1, 2, 4)), (4, 1))
        self.assertEqual(never_meet(loop, (1, 2, 4)), 4)
        self.assertEqual(ring_of(loop, (1, 2, 4), 3), [1, 3, 5])
        self.assertEqual(rings(loop, (6, 6, 6)), [[0], [1], [2], [3], [4], [5]])
        self.assertEqual(rings(Loop(1, [], []), (3, 3, 3)), [[0]])
        self.assertEqual(turning(Loop(1, [], []), (3, 3, 3)), (1, 3))
        self.assertEqual(mean(Loop(2000, [], []), (1, 1, 1999)), (1999, 1))
        self.assertEqual(len(rings(Loop(2000, [], []), (2000, 2000, 2000))), 2000)

    def test_small_loops(self):
        random = Random(63)
        for loop in small_loops(4):
            for settings in small_settings(6):
                self.check(random, loop, settings)

    def test_mixed_loops(self):
        for random, loop, settings in mixed_loops(64, 300):
            self.check(random, loop, settings)

    def test_long_loops(self):
        random = Random(65)
        for marks in [[], [1999], sorted(random.sample(range(2000), 400)), list(range(0, 2000, 5))]:
            for settings in [(1, 1, 1), (3, 700, 2000), (997, 998, 999), (2000, 2000, 2000)]:
                self.check(random, Loop(2000, marks, marks[::2]), settings)

    def test_walks_that_never_meet(self):
        """R6: so many walks from suitable starts, and every walk meets one of them."""
        for random, loop, settings in mixed_loops(66, 60, 12, 15):
            chosen = []
            many = never_meet(loop, settings)
            for start in range(2 * loop.period * many):
                if all(loop_meeting(loop, settings, start, other) is None for other in chosen):
                    chosen.append(start)
            self.assertEqual(len(chosen), many, (loop.period, loop.marks, loop.strict, settings))

    def test_new_lists(self):
        loop = Loop(6, [], [])
        found = rings(loop, (1, 2, 4))
        found[0].clear()
        found.clear()
        self.assertEqual(rings(loop, (1, 2, 4)), [[0, 2, 4], [1, 3, 5]])
        ring_of(loop, (1, 2, 4), 0).clear()
        self.assertEqual(ring_of(loop, (1, 2, 4), 0), [0, 2, 4])
        self.assertIs(type(turning(loop, (1, 2, 4))), tuple)
        self.assertIs(type(mean(loop, (1, 2, 4))), tuple)


class MeetingTest(unittest.TestCase):
    def check(self, loop, settings, turns, first, second):
        told = (loop.period, loop.marks, loop.strict, settings, first, second)
        expected = turns.meeting(first, second)
        self.assertEqual(loop_meeting(loop, settings, first, second), expected, told)
        self.assertEqual(loop_meeting(loop, settings, second, first), expected, told)

    def test_small_loops(self):
        for loop in small_loops(3):
            for settings in small_settings(5):
                turns = Turns(loop, settings)
                for first in range(-2, loop.period + 2):
                    for second in range(first, first + 2 * loop.period + 3):
                        self.check(loop, settings, turns, first, second)

    def test_mixed_loops(self):
        for random, loop, settings in mixed_loops(67, 400):
            turns = Turns(loop, settings)
            for _ in range(8):
                first = random.randint(-99, 99)
                self.check(loop, settings, turns, first, first + random.randint(0, 2 * loop.period))
                self.check(loop, settings, turns, first, random.randint(-500, 500))

    def test_far_apart(self):
        for random, loop, settings in mixed_loops(68, 300):
            turns = Turns(loop, settings)
            for _ in range(5):
                first = random.randint(-GREAT, GREAT)
                second = random.choice([first + random.randint(-99, 99), random.randint(-GREAT, GREAT)])
                low, high = sorted([first, second])
                # The walk from the lower place, in its ring, is the same again whole turns further on.
                near = low
                while near < high and near - low < 2 * loop.period * max(settings):
                    near = turns.next(near)
                turn = turns.r * loop.period
                if near < high:
                    near += (high - near) // turn * turn
                else:
                    near = low
                expected = turns.meeting(near, high)
                told = (loop.period, loop.marks, loop.strict, settings, first, second)
                self.assertEqual(loop_meeting(loop, settings, first, second), expected, told)
                self.assertEqual(loop_meeting(loop, settings, second, first), expected, told)

    def test_a_start_that_is_a_cut_of_the_other_walk(self):
        loop = Loop(7, [0], [0])
        for place in [0, 3, -8, 7 * 10 ** 28, -7 * 10 ** 28]:
            self.assertEqual(loop_meeting(loop, SETTINGS, place, place), place)
            after = loop_step(loop, SETTINGS, place)
            self.assertEqual(loop_meeting(loop, SETTINGS, place, after), after)
        self.assertEqual(loop_meeting(loop, SETTINGS, 0, 7 * 10 ** 28 + 5), 7 * 10 ** 28 + 5)
        self.assertEqual(loop_meeting(loop, SETTINGS, -7 * 10 ** 28, 5), 5)

    def test_walks_that_never_meet(self):
        loop = Loop(6, [], [])
        self.assertIsNone(loop_meeting(loop, (1, 2, 4), 0, 1))
        self.assertIsNone(loop_meeting(loop, (1, 2, 4), 0, 2))
        self.assertEqual(loop_meeting(loop, (1, 2, 4), 0, 4 * 10 ** 28), 4 * 10 ** 28)
        self.assertIsNone(loop_meeting(loop, (1, 2, 4), 0, 4 * 10 ** 28 + 2))
        self.assertIsNone(loop_meeting(loop, (1, 2, 4), -GREAT, GREAT - 1))

    def test_long_loops(self):
        random = Random(69)
        # In the last one, walks need nearly all residues until they are in the ring.
        loops = [Loop(2000, list(range(0, 2000, 5)), list(range(0, 2000, 10))), Loop(1999, [0], []), Loop(2000, [0], [0])]
        for loop in loops:
            for settings in [(1, 1, 1), (1, 1, 2), (1, 2, 3), (700, 701, 1999), (1999, 1999, 2000), (999, 1000, 1001)]:
                turns = Turns(loop, settings)
                for _ in range(3):
                    first = random.randint(-5000, 5000)
                    self.check(loop, settings, turns, first, random.randint(-5000, 5000))
                    self.check(loop, settings, turns, first, first + 1)


class ArgumentsTest(unittest.TestCase):
    def calls(self, settings, place=0, other=0):
        return [
            lambda: loop_step(EXAMPLE, settings, place), lambda: ring_of(EXAMPLE, settings, place),
            lambda: loop_meeting(EXAMPLE, settings, place, other),
            lambda: rings(EXAMPLE, settings), lambda: turning(EXAMPLE, settings), lambda: mean(EXAMPLE, settings),
            lambda: never_meet(EXAMPLE, settings),
        ]

    def test_settings_that_are_any_object(self):
        wrong = wrong_settings() + [(1, 1, 2001), (2001, 2001, 2001), (1, 2001, 2001), (1, 1, GREAT), EXAMPLE]
        for settings in wrong:
            for call in self.calls(settings) + self.calls(settings, True, False):
                with self.assertRaises(InvalidSettings, msg=repr(settings)):
                    call()
        for settings in [(1, 1, 2000), (2000, 2000, 2000), (1, 2000, 2000)]:
            for call in self.calls(settings):
                call()

    def test_places_that_are_booleans(self):
        for place, other in [(True, 0), (False, 0)]:
            for call in self.calls(SETTINGS, place, other)[:3]:
                with self.assertRaises(InvalidPlace):
                    call()
        with self.assertRaises(InvalidPlace):
            loop_meeting(EXAMPLE, SETTINGS, 0, True)

    def test_the_first_wrong_argument_decides(self):
        for arguments in [(0, [0, 0], [9]), (2001, None, None), (7, None, [9]), (7, [0, 3], None)]:
            with self.assertRaises(InvalidLoop):
                Loop(*arguments)

    def test_arguments_by_name(self):
        self.assertEqual(loop_step(place=4, settings=SETTINGS, loop=EXAMPLE), loop_step(EXAMPLE, SETTINGS, 4))
        self.assertEqual(ring_of(place=4, settings=SETTINGS, loop=EXAMPLE), ring_of(EXAMPLE, SETTINGS, 4))
        found = loop_meeting(second=9, first=4, settings=SETTINGS, loop=EXAMPLE)
        self.assertEqual(found, loop_meeting(EXAMPLE, SETTINGS, 4, 9))
        for function in [rings, turning, mean, never_meet]:
            self.assertEqual(function(settings=SETTINGS, loop=EXAMPLE), function(EXAMPLE, SETTINGS))
        self.assertEqual(EXAMPLE, Loop(7, [0, 3], [3]))

    def test_booleans_in_marks(self):
        for thing in NO_INTEGERS:
            with self.assertRaises(InvalidLoop):
                Loop(7, [0, thing], [])
            with self.assertRaises(InvalidLoop):
                Loop(7, [0, 1], [thing])


if __name__ == "__main__":
    unittest.main()
