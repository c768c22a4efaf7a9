"""Points [3], R1, R7, [14]: what known pieces tell of the places and the walks of a row."""

import unittest
from itertools import combinations, product
from random import Random

from cutwalks.errors import Clash, InvalidNumber, InvalidPieces, InvalidPlace, InvalidSettings, TooLarge
from cutwalks.knowledge import kinds_at, possible_cuts, row_around, row_through, steps_from, sure_cuts
from cutwalks.rows import Row
from cutwalks.walks import next_cut, walk
from model import (
    GREAT, NO_INTEGERS, ODD_THINGS, mixed_rows, next_by_definition, places_of, ranges_of, small_rows, small_settings,
    walk_by_definition, wrong_settings)
from rounds import great_rows

SETTINGS = (2, 4, 5)
KINDS = ["none", "plain", "strict"]
# Each function, with how many places it takes, and the least and greatest of them for a length of 20.
FUNCTIONS = [
    (kinds_at, 1, 1, 19), (steps_from, 1, 0, 19), (possible_cuts, 1, 0, 20), (sure_cuts, 1, 0, 20),
    (row_through, 2, 0, 20), (row_around, 2, 0, 20),
]


class AllRows:
    """All rows of a length with all kinds of each place, and the next cuts in them."""

    def __init__(self, length, settings):
        self.length, self.settings = length, settings
        self.rows = []
        for row_length, marks, strict in small_rows(length):
            if row_length == length:
                steps = [next_by_definition(length, marks, strict, settings, place) for place in range(length)]
                self.rows.append((marks, strict, steps))

    def fitting(self, pieces):
        return [found for found in self.rows if all(found[2][begin] == end for begin, end in pieces)]

    def pieces(self):
        """All pieces that may be told."""
        least, _, greatest = self.settings
        for begin, end in combinations(range(self.length + 1), 2):
            if end - begin <= greatest and (end - begin >= least or end == self.length):
                yield begin, end

    def walk(self, found, start):
        cuts = [start]
        while cuts[-1] < self.length:
            cuts.append(found[2][cuts[-1]])
        return cuts


def kind_of(found, place):
    marks, strict, _ = found
    return "strict" if place in strict else "plain" if place in marks else "none"


class SmallTest(unittest.TestCase):
    def check(self, rows, pieces):
        told = (rows.length, rows.settings, pieces)
        fitting = rows.fitting(pieces)
        if not fitting:
            pairs = [pair for pair in combinations(range(len(pieces)), 2)
                     if not rows.fitting([pieces[pair[0]], pieces[pair[1]]])]
            for function, many, low, high in FUNCTIONS:
                if low < rows.length:
                    with self.assertRaises(Clash, msg=repr(told)) as caught:
                        function(*told, *[low] * many)
                    self.assertEqual(caught.exception.indices, min(pairs), told)
            return
        for place in range(1, rows.length):
            seen = {kind_of(found, place) for found in fitting}
            self.assertEqual(kinds_at(*told, place), [kind for kind in KINDS if kind in seen], (told, place))
        for place in range(rows.length):
            self.assertEqual(steps_from(*told, place), ranges_of(found[2][place] for found in fitting), (told, place))
        for start in range(rows.length + 1):
            self.check_walks(rows, told, start, [set(rows.walk(found, start)) for found in fitting])

    def check_walks(self, rows, told, start, walks):
        some, every = set.union(*walks), set.intersection(*walks)
        self.assertEqual(possible_cuts(*told, start), ranges_of(some), (told, start))
        self.assertEqual(sure_cuts(*told, start), sorted(every), (told, start))
        for place in range(rows.length + 1):
            for function, is_in, is_told in [(row_through, True, place in some), (row_around, False, place not in every)]:
                row = function(*told, start, place)
                if is_told:
                    self.check_row(rows, told, start, place, row, is_in)
                else:
                    self.assertIsNone(row, (told, start, place))

    def check_row(self, rows, told, start, place, row, is_in):
        self.assertIsInstance(row, Row, (told, start, place))
        self.assertEqual(row.length, rows.length)
        for begin, end in told[2]:
            self.assertEqual(next_by_definition(row.length, row.marks, row.strict, rows.settings, begin), end, told)
        cuts = walk_by_definition(row.length, row.marks, row.strict, rows.settings, start)
        self.assertIs(place in cuts, is_in, (told, start, place))

    def test_no_pieces_and_one(self):
        for length in range(1, 7):
            for settings in small_settings(4):
                rows = AllRows(length, settings)
                self.check(rows, [])
                for piece in rows.pieces():
                    self.check(rows, [piece])

    def test_any_two_pieces(self):
        for length, highest in [(1, 4), (2, 4), (3, 4), (4, 4), (5, 3)]:
            for settings in small_settings(highest):
                rows = AllRows(length, settings)
                for pieces in product(rows.pieces(), repeat=2):
                    self.check(rows, list(pieces))

    def test_several_pieces_of_one_row(self):
        random = Random(71)
        for length in [5, 6, 7]:
            for settings in small_settings(4):
                rows = AllRows(length, settings)
                for _ in range(5):
                    found = random.choice(rows.rows)
                    pieces = [(place, found[2][place]) for place in random.choices(range(length), k=random.randint(2, 5))]
                    self.check(rows, pieces)
                start = random.randrange(length)
                cuts = rows.walk(random.choice(rows.rows), start)
                self.check(rows, list(zip(cuts, cuts[1:])))

    def test_several_pieces_that_clash(self):
        random = Random(72)
        for length in [5, 6, 7]:
            for settings in small_settings(5):
                rows = AllRows(length, settings)
                pieces = list(rows.pieces())
                for _ in range(4):
                    self.check(rows, random.choices(pieces, k=random.randint(3, 6)))


class MixedTest(unittest.TestCase):
    """Rows too long to try all of them, place by place."""

    def test_possible_and_sure_cuts_by_the_steps_of_each_place(self):
        for random, slow in mixed_rows(76, 150, 80):
            places = random.choices(range(slow.length), k=random.randint(0, 25))
            pieces = [(place, slow.next[place]) for place in places]
            told = (slow.length, slow.settings, pieces)
            steps = [set(places_of(steps_from(*told, place))) for place in range(slow.length)]
            for start in [0, random.randint(0, slow.length)]:
                found = {start}
                for place in range(start, slow.length):
                    if place in found:
                        found |= steps[place]
                self.assertEqual(possible_cuts(*told, start), ranges_of(found), (told, start))
                sure = [cut for cut in found if not self.is_passed(found, steps, cut)]
                self.assertEqual(sure_cuts(*told, start), sorted(sure), (told, start))
                self.check_rows(slow, told, start, found, sure)

    def is_passed(self, found, steps, cut):
        """Whether a step from one of the places found leads over this one."""
        return any(max(steps[place]) > cut for place in found if place < cut)

    def check_rows(self, slow, told, start, found, sure):
        for place in range(slow.length + 1):
            through, around = row_through(*told, start, place), row_around(*told, start, place)
            self.assertIs(through is not None, place in found, (told, start, place))
            self.assertIs(around is not None, place not in sure, (told, start, place))
            for row, is_in in [(through, True), (around, False)]:
                if row is not None:
                    self.assertIs(place in walk(row, slow.settings, start), is_in, (told, start, place))
                    self.assertTrue(all(next_cut(row, slow.settings, begin) == end for begin, end in told[2]))

    def test_steps_by_one_piece_more(self):
        for random, slow in mixed_rows(77, 150, 60):
            pieces = [(place, slow.next[place]) for place in random.choices(range(slow.length), k=random.randint(0, 15))]
            told = (slow.length, slow.settings, pieces)
            for place in random.choices(range(slow.length), k=4):
                found = []
                for cut in range(place + 1, min(place + slow.settings[2], slow.length) + 1):
                    if cut == slow.length or cut >= place + slow.settings[0]:
                        if self.fits(*told[:2], pieces + [(place, cut)]):
                            found.append(cut)
                self.assertEqual(steps_from(*told, place), ranges_of(found), (told, place))

    def fits(self, length, settings, pieces):
        try:
            sure_cuts(length, settings, pieces, length)
        except Clash:
            return False
        return True


class ExampleTest(unittest.TestCase):
    def test_kinds(self):
        told = (20, SETTINGS, [(0, 3)])
        # Nearer than normal, so 3 is strict; 2 is not.
        self.assertEqual([kinds_at(*told, place) for place in [1, 2, 3, 4]], [KINDS, ["none", "plain"], ["strict"], KINDS])
        told = (20, SETTINGS, [(0, 4)])
        self.assertEqual([kinds_at(*told, place) for place in [2, 3, 4, 5]],
                         [["none", "plain"], ["none", "plain"], ["plain", "strict"], KINDS])
        told = (20, SETTINGS, [(0, 5)])
        self.assertEqual([kinds_at(*told, place) for place in [1, 2, 3, 4, 5]],
                         [KINDS, ["none", "plain"], ["none", "plain"], ["none"], KINDS])
        told = (20, SETTINGS, [(16, 20)])
        self.assertEqual([kinds_at(*told, place) for place in [17, 18, 19]], [KINDS, ["none", "plain"], ["none", "plain"]])
        self.assertEqual(kinds_at(20, SETTINGS, [(0, 4), (1, 6)], 4), ["plain"])

    def test_steps(self):
        self.assertEqual(steps_from(20, SETTINGS, [], 3), [(5, 8)])
        self.assertEqual(steps_from(20, SETTINGS, [], 17), [(19, 20)])
        self.assertEqual(steps_from(20, SETTINGS, [], 19), [(20, 20)])
        self.assertEqual(steps_from(20, SETTINGS, [(3, 7)], 3), [(7, 7)])
        # Nothing strict from 5 to 6, and 7 is a mark; 5 is too near to 2 for a plain mark.
        self.assertEqual(steps_from(20, SETTINGS, [(3, 7)], 2), [(4, 4), (6, 7)])
        self.assertEqual(steps_from(20, SETTINGS, [(3, 7)], 1), [(3, 6)])
        self.assertEqual(steps_from(20, SETTINGS, [(3, 7)], 4), [(7, 9)])

    def test_walks(self):
        self.assertEqual(possible_cuts(20, SETTINGS, [], 0), [(0, 0), (2, 20)])
        self.assertEqual(possible_cuts(20, SETTINGS, [], 20), [(20, 20)])
        self.assertEqual(sure_cuts(20, SETTINGS, [], 0), [0, 20])
        self.assertEqual(sure_cuts(20, SETTINGS, [], 20), [20])
        self.assertEqual(sure_cuts(20, SETTINGS, [(0, 3), (3, 8)], 0), [0, 3, 8, 20])
        self.assertEqual(sure_cuts(20, SETTINGS, [(3, 8), (8, 12)], 0), [0, 20])
        self.assertEqual(possible_cuts(20, SETTINGS, [(0, 3), (3, 8)], 0), [(0, 0), (3, 3), (8, 8), (10, 20)])

    def test_a_sure_cut_behind_any_start(self):
        # Each walk from 0 to 4 comes to 5: greatest is 5, and the places before it have it as their next cut.
        pieces = [(0, 5), (1, 5), (2, 5), (3, 5), (4, 7)]
        self.assertEqual(sure_cuts(12, (2, 3, 5), pieces, 1), [1, 5, 12])
        self.assertEqual(possible_cuts(12, (2, 3, 5), pieces, 4), [(4, 4), (7, 7), (9, 12)])

    def test_rows(self):
        told = (20, SETTINGS, [(3, 7)])
        self.assertIsNone(row_through(*told, 3, 8))
        self.assertIsNone(row_through(*told, 3, 2))
        self.assertIsNone(row_around(*told, 3, 7))
        self.assertIsNone(row_around(*told, 3, 3))
        self.assertIsNone(row_around(*told, 3, 20))
        self.assertEqual(walk(row_through(*told, 3, 7), SETTINGS, 3)[:2], [3, 7])
        self.assertEqual(walk(row_around(*told, 3, 2), SETTINGS, 3)[:2], [3, 7])
        self.assertIn(12, walk(row_through(*told, 3, 12), SETTINGS, 3))
        self.assertNotIn(12, walk(row_around(*told, 3, 12), SETTINGS, 3))

    def test_a_row_of_one_cell(self):
        told = (1, SETTINGS, [(0, 1), (0, 1)])
        self.assertEqual(steps_from(*told, 0), [(1, 1)])
        self.assertEqual(possible_cuts(*told, 0), [(0, 1)])
        self.assertEqual(sure_cuts(*told, 0), [0, 1])
        self.assertEqual(row_through(*told, 0, 1), Row(1, [], []))
        with self.assertRaises(InvalidPlace):
            kinds_at(*told, 1)
        with self.assertRaises(InvalidPlace):
            kinds_at(*told, 0)

    def test_clashes(self):
        for pieces, indices in [
            ([(0, 3), (0, 4)], (0, 1)), ([(0, 5), (0, 4)], (0, 1)), ([(0, 3), (3, 8), (0, 4)], (0, 2)),
            ([(0, 3), (1, 5)], (0, 1)), ([(5, 10), (0, 3), (6, 10), (1, 5), (0, 4)], (1, 3)),
            ([(7, 9), (0, 3), (0, 3), (0, 4)], (1, 3)), ([(0, 4), (10, 14), (9, 14), (0, 3)], (0, 3)),
        ]:
            with self.assertRaises(Clash, msg=repr(pieces)) as caught:
                possible_cuts(20, SETTINGS, pieces, 0)
            self.assertEqual(caught.exception.indices, indices)
            self.assertIs(type(caught.exception.indices), tuple)


class GreatTest(unittest.TestCase):
    def some_pieces(self, random, rounds):
        places = [random.randint(0, rounds.length - 1) for _ in range(random.randint(0, 40))]
        cuts = rounds.walk(random.choice(places or [0]))
        places += random.choice([[], cuts[:-1], cuts[:5]])
        for mark in random.sample(rounds.marks, min(10, len(rounds.marks))):
            places.append(mark - random.choice(rounds.settings) + random.choice([-1, 0, 1]))
        places = [place for place in places if 0 <= place < rounds.length]
        random.shuffle(places)
        return [(place, rounds.next(place, rounds.marks)) for place in places[:100]]

    def test_great_rows(self):
        for random, rounds in great_rows(73, 45):
            pieces = self.some_pieces(random, rounds)
            told = (rounds.length, rounds.settings, pieces)
            self.check_places(random, rounds, told)
            for start in [0, random.randint(0, rounds.length), rounds.length] + [end for _, end in pieces[:1]]:
                self.check_walks(random, rounds, told, start)

    def check_places(self, random, rounds, told):
        strict = set(rounds.strict)
        ends = [end + random.choice([-1, 0, 0, 1]) for _, end in told[2]]
        for place in [random.randint(0, rounds.length) for _ in range(5)] + ends[:20]:
            if 1 <= place < rounds.length:
                kind = "strict" if place in strict else "plain" if place in rounds.marks else "none"
                self.assertIn(kind, kinds_at(*told, place), (told, place))
            if 0 <= place < rounds.length:
                cut = rounds.next(place, rounds.marks)
                ranges = steps_from(*told, place)
                self.assertTrue(any(low <= cut <= high for low, high in ranges), (told, place))
                self.check_steps(random, told, place, ranges)

    def check_steps(self, random, told, place, ranges):
        """A next cut is possible if and only if it fits as one more piece."""
        length, settings, pieces = told
        for low, high in ranges[:5]:
            for cut in [low - 1, low, random.randint(low, high), high, high + 1]:
                is_told = any(first <= cut <= last for first, last in ranges)
                is_piece = place < cut <= min(length, place + settings[2])
                if is_piece and (cut == length or cut - place >= settings[0]):
                    if len(pieces) < 100:
                        self.assertIs(self.fits(length, settings, pieces + [(place, cut)]), is_told, (told, place, cut))
                else:
                    self.assertFalse(is_told, (told, place, cut))

    def fits(self, length, settings, pieces):
        try:
            possible_cuts(length, settings, pieces, length)
        except Clash:
            return False
        return True

    def check_walks(self, random, rounds, told, start):
        ranges = possible_cuts(*told, start)
        cuts = rounds.walk(start)
        sure = sure_cuts(*told, start)
        for cut in cuts:
            self.assertTrue(any(low <= cut <= high for low, high in ranges), (told, start))
        self.assertLessEqual(set(sure), set(cuts), (told, start))
        self.assertEqual(sure, sorted(sure))
        places = random.choices(cuts, k=2) + random.choices(sure, k=2) + [random.randint(0, rounds.length)]
        for low, high in random.choices(ranges, k=3):
            places += [low - 1, low, random.randint(low, high), high, high + 1]
        for place in places:
            if not 0 <= place <= rounds.length:
                continue
            is_possible = any(low <= place <= high for low, high in ranges)
            for function, is_in, is_told in [(row_through, True, is_possible), (row_around, False, place not in sure)]:
                row = function(*told, start, place)
                self.assertIs(row is not None, is_told, (told, start, place))
                if row is not None:
                    self.check_row(told, start, place, row, is_in)

    def check_row(self, told, start, place, row, is_in):
        length, settings, pieces = told
        self.assertEqual(row.length, length)
        for begin, end in pieces:
            self.assertEqual(next_cut(row, settings, begin), end, (told, start, place))
        self.assertIs(place in walk(row, settings, start), is_in, (told, start, place))

    def test_possible_cuts_step_by_step(self):
        """All possible cuts but the start are steps of possible ones, and all steps of possible ones are possible."""
        for random, rounds in great_rows(74, 60):
            told = (rounds.length, rounds.settings, self.some_pieces(random, rounds))
            start = random.randint(0, rounds.length)
            ranges = possible_cuts(*told, start)
            for low, high in random.choices(ranges, k=4):
                for place in {low, random.randint(low, high), high}:
                    if place < rounds.length:
                        for first, last in steps_from(*told, place):
                            self.assertTrue(any(begin <= first and last <= end for begin, end in ranges), (told, start))
                    if place > start:
                        row = row_through(*told, start, place)
                        self.assertIn(place, walk(row, rounds.settings, start))

    def test_a_hundred_pieces_and_the_greatest_length(self):
        random = Random(75)
        least = GREAT // 200 + 1
        for settings in [(least, least, least), (least, least + 7, 2 * least), (least, GREAT, GREAT), (least, least, GREAT)]:
            marks = [mark * 10 ** 21 for mark in sorted(random.sample(range(1, 10 ** 9), 400))]
            row = Row(GREAT, marks, marks[::3])
            for places in [walk(row, settings, 9)[:100], [random.randrange(GREAT) for _ in range(100)]]:
                pieces = [(place, next_cut(row, settings, place)) for place in places if place < GREAT]
                cuts = walk(row, settings, 9)
                ranges = possible_cuts(GREAT, settings, pieces, 9)
                self.assertTrue(all(any(low <= cut <= high for low, high in ranges) for cut in cuts))
                self.assertLessEqual(set(sure_cuts(GREAT, settings, pieces, 9)), set(cuts))
                through = row_through(GREAT, settings, pieces, 9, ranges[-2][0] if len(ranges) > 1 else 9)
                self.assertTrue(all(next_cut(through, settings, begin) == end for begin, end in pieces))

    def test_great_lengths_of_one_piece(self):
        settings = (10 ** 28, 10 ** 29, GREAT)
        self.assertEqual(steps_from(GREAT, settings, [], 0), [(10 ** 28, GREAT)])
        told = (GREAT, settings, [(0, 10 ** 29)])
        self.assertEqual(kinds_at(*told, 10 ** 28 - 1), KINDS)
        self.assertEqual(kinds_at(*told, 10 ** 28), ["none", "plain"])
        self.assertEqual(kinds_at(*told, 10 ** 29 - 1), ["none", "plain"])
        self.assertEqual(kinds_at(*told, 10 ** 29), ["plain", "strict"])
        self.assertEqual(kinds_at(*told, 10 ** 29 + 1), KINDS)
        # From 1, a strict mark can be the next cut before 10 ** 28 + 1 no more.
        self.assertEqual(steps_from(*told, 1), [(10 ** 29, GREAT)])
        told = (GREAT, settings, [(0, GREAT)])
        self.assertEqual(steps_from(*told, 10 ** 29 - 1), [(GREAT, GREAT)])
        self.assertEqual(sure_cuts(*told, 5), [5, GREAT])


class NormalTest(unittest.TestCase):
    def test_next_cuts_do_not_fall_as_normal_grows(self):
        """R7."""
        for length, marks, strict in small_rows(6):
            row = Row(length, marks, strict)
            for least in range(1, 4):
                for greatest in range(least, 6):
                    for place in range(length):
                        cuts = [next_cut(row, (least, normal, greatest), place) for normal in range(least, greatest + 1)]
                        self.assertEqual(cuts, sorted(cuts))


class ArgumentsTest(unittest.TestCase):
    def calls(self, *arguments):
        """All functions, with places that are right for a length of 20."""
        for function, many, low, high in FUNCTIONS:
            yield lambda: function(*arguments, *[high] * many)

    def test_lengths(self):
        for length in [0, -1, -GREAT, True, False]:
            for call in self.calls(length, None, None):
                with self.assertRaises(InvalidNumber):
                    call()

    def test_settings(self):
        for settings in wrong_settings():
            for call in self.calls(20, settings, None):
                with self.assertRaises(InvalidSettings):
                    call()

    def test_pieces_that_are_any_object(self):
        wrong = ODD_THINGS + [0, 5, (), (0, 3), ((0, 3),), {"a": (0, 3)}]
        for thing in NO_INTEGERS + [0, 3, [0, 3], (0,), (0, 3, 6), ((0, 3),), [(0, 3)]]:
            wrong += [[thing], [(0, 3), thing], [thing, (0, 3)]]
        for thing in NO_INTEGERS:
            wrong += [[(thing, 3)], [(0, thing)], [(0, 3), (thing, 3)]]
        wrong += [[(3, 3)], [(3, 0)], [(-1, 3)], [(18, 21)], [(20, 20)], [(20, 21)], [(False, 3)], [(-GREAT, GREAT)]]
        # More than greatest, less than least.
        wrong += [[(0, 6)], [(14, 20)], [(0, 1)], [(18, 19)], [(0, 3), (0, 6)], [(0, 3)] * 101]
        for pieces in wrong:
            for call in self.calls(20, SETTINGS, pieces):
                with self.assertRaises(InvalidPieces, msg=repr(pieces)):
                    call()
            with self.assertRaises(InvalidPieces, msg=repr(pieces)):
                possible_cuts(20, SETTINGS, pieces, -1)
        for pieces in [[], [(0, 5)], [(15, 20)], [(0, 2)], [(17, 19)], [(18, 20)], [(19, 20)], [(0, 3)] * 100, [(0, 5), (0, 5)]]:
            for call in self.calls(20, SETTINGS, pieces):
                call()

    def test_places(self):
        for function, many, low, high in FUNCTIONS:
            for place in [low, high]:
                function(20, SETTINGS, [], *[place] * many)
            for place in [low - 1, high + 1, GREAT, -GREAT, True, False]:
                for number in range(many):
                    places = [high] * many
                    places[number] = place
                    with self.assertRaises(InvalidPlace):
                        function(20, SETTINGS, [], *places)
                    with self.assertRaises(InvalidPlace):
                        function(20, SETTINGS, [(0, 3), (0, 4)], *places)
                    with self.assertRaises(InvalidPlace):
                        function(401, SETTINGS, [(0, 3), (0, 4)], *[401 if part > 20 else part for part in places[:number]], -1, *places[number + 1:])

    def test_the_other_errors_in_their_order(self):
        for function, many, low, high in FUNCTIONS:
            with self.assertRaises(TooLarge):
                function(401, SETTINGS, [(0, 3), (0, 4)], *[low] * many)
            with self.assertRaises(Clash):
                function(400, SETTINGS, [(0, 3), (0, 4)], *[low] * many)
            function(400, SETTINGS, [(0, 3)], *[low] * many)
            with self.assertRaises(TooLarge):
                function(GREAT, (GREAT // 200, GREAT, GREAT), [], *[low] * many)
            function(GREAT, (GREAT // 200 + 1, GREAT, GREAT), [], *[low] * many)

    def test_lists_and_names(self):
        pieces = [(0, 3)]
        told = possible_cuts(20, SETTINGS, pieces, 0)
        row = row_through(20, SETTINGS, pieces, 0, 8)
        self.assertEqual(pieces, [(0, 3)])
        pieces.append((0, 4))
        self.assertEqual(row, row_through(20, SETTINGS, [(0, 3)], 0, 8))
        self.assertEqual(possible_cuts(start=0, pieces=[(0, 3)], settings=SETTINGS, length=20), told)
        for function, many, low, high in FUNCTIONS:
            first = function(20, SETTINGS, [(0, 3)], *[low] * many)
            if isinstance(first, list):
                first.append(1)
                self.assertNotEqual(function(20, SETTINGS, [(0, 3)], *[low] * many), first)
        names = {"length": 20, "settings": SETTINGS, "pieces": [(0, 3)]}
        self.assertEqual(kinds_at(place=2, **names), ["none", "plain"])
        self.assertEqual(steps_from(place=1, **names), [(3, 3)])
        self.assertEqual(sure_cuts(start=0, **names), [0, 3, 20])
        self.assertEqual(row_through(place=8, start=0, **names), row)
        self.assertEqual(row_around(place=3, start=0, **names), None)


if __name__ == "__main__":
    unittest.main()
