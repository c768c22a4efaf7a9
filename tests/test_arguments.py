"""Points [2], [3], [7] to [10]: wrong arguments, the order in which they are checked, and rows that are too long."""

import unittest
from itertools import combinations

from cutwalks.errors import InvalidPlace, InvalidRanges, InvalidSettings, TooLarge
from cutwalks.meetings import apart, entries, last_apart, meeting, meeting_paper, shows_meeting, sure_cut
from cutwalks.ranges import first_cuts, image
from cutwalks.rows import Row
from cutwalks.starts import basin, partners, share, sure_for
from model import GREAT, ODD_THINGS, wrong_lists, wrong_ranges, wrong_settings

EXAMPLE = Row(20, [3, 7, 8, 13], [3, 8])
SETTINGS = (2, 4, 5)

# Values that each function takes, in the order of its signature, for every row of 20 cells or more.
VALID = {
    image: {"settings": SETTINGS, "ranges": [(0, 2), (4, 6)]},
    first_cuts: {"settings": SETTINGS, "ranges": [(0, 2), (4, 6)], "place": 6},
    entries: {"settings": SETTINGS, "place": 4},
    meeting: {"settings": SETTINGS, "first": 4, "second": 6},
    sure_cut: {"settings": SETTINGS, "place": 4},
    last_apart: {"settings": SETTINGS, "place": 4},
    apart: {"settings": SETTINGS, "place": 4, "far": 9},
    meeting_paper: {"settings": SETTINGS, "place": 4},
    shows_meeting: {"settings": SETTINGS, "place": 4, "thing": None},
    basin: {"settings": SETTINGS, "cut": 8},
    share: {"settings": SETTINGS, "cut": 8},
    sure_for: {"settings": SETTINGS, "ranges": [(0, 2), (4, 6)]},
    partners: {"settings": SETTINGS, "start": 4},
}
BEFORE_THE_END = [entries, sure_cut, last_apart, apart, meeting_paper, shows_meeting]
PLACES = ["place", "first", "second", "far", "cut", "start"]
WRONG = {"settings": (3, 2, 5), "ranges": [(0, 2), (3, 6)]}
WRONG.update({name: -1 for name in PLACES})
ERRORS = {"settings": InvalidSettings, "ranges": InvalidRanges}
ERRORS.update({name: InvalidPlace for name in PLACES})


class ArgumentsTest(unittest.TestCase):
    def check(self, function, error, row, **changed):
        arguments = {**VALID[function], **changed}
        with self.assertRaises(error, msg=repr((function.__name__, row.length, arguments))) as caught:
            function(row, **arguments)
        self.assertIs(type(caught.exception), error)

    def passes(self, function, row, **changed):
        """A call whose arguments are right, also by position."""
        arguments = {**VALID[function], **changed}
        self.assertEqual(function(row, **arguments), function(row, *arguments.values()))

    def test_what_is_valid(self):
        for function in VALID:
            self.passes(function, EXAMPLE)

    def test_settings_that_are_any_object(self):
        for function in VALID:
            for settings in wrong_settings() + wrong_lists(1, 4):
                self.check(function, InvalidSettings, EXAMPLE, settings=settings)

    def test_ranges_that_are_any_object(self):
        for function in [image, first_cuts, sure_for]:
            for ranges in wrong_ranges(20):
                self.check(function, InvalidRanges, EXAMPLE, ranges=ranges, **({"place": 20} if function is first_cuts else {}))
            for ranges in [[(0, 0)], [(20, 20)], [(0, 20)], [(0, 0), (2, 2), (4, 4)], [(0, 17), (19, 20)]]:
                self.passes(function, EXAMPLE, ranges=ranges, **({"place": 20} if function is first_cuts else {}))

    def test_places_of_the_row(self):
        for function, name in [(basin, "cut"), (share, "cut"), (partners, "start"), (meeting, "first"), (meeting, "second")]:
            for place in [0, 19, 20]:
                self.passes(function, EXAMPLE, **{name: place})
            for place in [-1, 21, GREAT, -GREAT]:
                self.check(function, InvalidPlace, EXAMPLE, **{name: place})

    def test_places_before_the_end(self):
        for function in BEFORE_THE_END:
            more = {"far": 20} if function is apart else {}
            for place in [0, 19]:
                self.passes(function, EXAMPLE, place=place, **more)
            for place in [-1, 20, 21, GREAT, -GREAT]:
                self.check(function, InvalidPlace, EXAMPLE, place=place, **more)
            self.check(function, InvalidPlace, Row(1, [], []), place=1, **({"far": 1} if more else {}))

    def test_the_far_place(self):
        for place, far in [(4, 4), (4, 20), (0, 0), (19, 19), (19, 20)]:
            self.passes(apart, EXAMPLE, place=place, far=far)
        for place, far in [(4, 3), (4, 0), (4, -1), (4, 21), (19, 18), (20, 20), (0, -1), (0, GREAT), (0, -GREAT)]:
            self.check(apart, InvalidPlace, EXAMPLE, place=place, far=far)

    def test_a_place_before_a_place_of_the_ranges(self):
        for ranges, place in [([(4, 6)], 6), ([(0, 0), (4, 6)], 6), ([(20, 20)], 20), ([(0, 0)], 0), ([(4, 4)], 20)]:
            self.passes(first_cuts, EXAMPLE, ranges=ranges, place=place)
        wrong = [([(4, 6)], 5), ([(4, 6)], 4), ([(4, 6)], 3), ([(0, 0), (4, 6)], 2), ([(20, 20)], 19), ([(0, 0)], -1)]
        wrong += [([(4, 6)], 21), ([(20, 20)], 21), ([(4, 6)], GREAT), ([(4, 6)], -GREAT), ([(0, 20)], 0)]
        for ranges, place in wrong:
            self.check(first_cuts, InvalidPlace, EXAMPLE, ranges=ranges, place=place)

    def test_the_first_wrong_argument_decides(self):
        for function, arguments in VALID.items():
            names = [name for name in arguments if name in WRONG]
            for many in range(1, len(names) + 1):
                for chosen in combinations(names, many):
                    wrong = {name: WRONG[name] for name in chosen}
                    self.check(function, ERRORS[chosen[0]], EXAMPLE, **wrong)
                    self.check(function, ERRORS[chosen[0]], Row(401, [], []), **wrong)
                    self.check(function, ERRORS[chosen[0]], Row(GREAT, [5], []), **wrong)

    def test_too_large_comes_after_the_ends_of_places_too(self):
        row = Row(401, [], [])
        for function in BEFORE_THE_END:
            self.check(function, InvalidPlace, row, place=401, **({"far": 401} if function is apart else {}))
        self.check(apart, InvalidPlace, row, place=4, far=3)
        self.check(apart, InvalidPlace, row, place=4, far=402)
        self.check(apart, TooLarge, row, place=4, far=401)
        self.check(first_cuts, InvalidPlace, row, ranges=[(4, 6)], place=5)
        self.check(first_cuts, TooLarge, row, ranges=[(4, 401)], place=401)
        self.check(meeting, InvalidPlace, row, first=4, second=402)
        self.check(meeting, TooLarge, row, first=401, second=401)
        for function in [image, sure_for]:
            self.check(function, InvalidRanges, row, ranges=[(4, 402)])
            self.check(function, TooLarge, row, ranges=[(4, 401)])
        for function, name in [(basin, "cut"), (share, "cut"), (partners, "start")]:
            self.check(function, InvalidPlace, row, **{name: 402})
            self.check(function, TooLarge, row, **{name: 401})

    def test_too_large_for_every_thing(self):
        for thing in ODD_THINGS + [(4, 1), (0, 0), []]:
            self.check(shows_meeting, TooLarge, Row(401, [], []), thing=thing)
            self.check(shows_meeting, InvalidPlace, EXAMPLE, place=20, thing=thing)
            self.check(shows_meeting, InvalidSettings, EXAMPLE, settings=None, place=20, thing=thing)

    def test_two_hundred_times_least(self):
        for least in [1, 2, 7, 10 ** 27]:
            for settings in [(least, least, least), (least, 2 * least, 3 * least), (least, GREAT, GREAT)]:
                for function in VALID:
                    self.passes(function, Row(200 * least, [], []), settings=settings)
                    for more in [200 * least + 1, 200 * least + 200, GREAT]:
                        self.check(function, TooLarge, Row(more, [], []), settings=settings)

    def test_arguments_stay(self):
        for function, arguments in VALID.items():
            ranges = [(0, 2), (4, 6)]
            if "ranges" in arguments:
                first = function(EXAMPLE, **{**arguments, "ranges": ranges})
                self.assertEqual(ranges, [(0, 2), (4, 6)])
                ranges.clear()
                self.assertEqual(function(EXAMPLE, **arguments), first)
            self.assertEqual(function(EXAMPLE, **arguments), function(Row(20, [3, 7, 8, 13], [3, 8]), **arguments))
            self.assertEqual(EXAMPLE, Row(20, [3, 7, 8, 13], [3, 8]))


if __name__ == "__main__":
    unittest.main()
