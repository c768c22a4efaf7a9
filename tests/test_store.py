"""Point [15]: versions, their pieces, what is stored, and what may be undone."""

import unittest
from random import Random

from cutwalks.errors import InvalidName, InvalidNumber, InvalidSettings, InvalidSpans, NothingToUndo
from cutwalks.loops import Loop
from cutwalks.rows import Row
from cutwalks.store import Store
from cutwalks.walks import walk
from model import GREAT, NO_INTEGERS, ODD_THINGS, walk_by_definition, wrong_lists, wrong_settings

SETTINGS = (2, 4, 5)
MARKING = [2, 6, 7, 12]
STRICT = [2, 7]


class Slow:
    """A store of small versions, cell by cell, that does every call again to undo."""

    def __init__(self, settings, marking, strict):
        self.given = (settings, marking, strict)
        self.versions = {}
        self.calls = []
        self.marks = []

    def content(self, spans):
        return [cell for first, last in spans for cell in range(first, last + 1)]

    def cuts(self, spans):
        settings, marking, strict = self.given
        cells = self.content(spans)
        marks = [place for place in range(1, len(cells)) if cells[place - 1] in marking]
        firm = [place for place in marks if cells[place - 1] in strict]
        return walk_by_definition(len(cells), marks, firm, settings, 0)

    def pieces(self, spans):
        """The pieces as tuples of all their cells."""
        cells, cuts = self.content(spans), self.cuts(spans)
        return [tuple(cells[begin:end]) for begin, end in zip(cuts, cuts[1:])]

    def of(self, names):
        return {piece for name in names for piece in self.pieces(self.versions[name])}

    def cells(self, pieces):
        return sum(len(piece) for piece in pieces)

    def stored(self):
        return self.cells(self.of(self.versions))

    def alone(self, names):
        return self.cells(self.of(names) - self.of([name for name in self.versions if name not in names]))

    def add(self, name, spans):
        before = self.of(self.versions)
        self.calls.append((name, spans))
        self.versions = dict(self.versions, **{name: spans})
        fresh = self.of([name]) - before
        return len(fresh), self.cells(fresh)

    def drop(self, name):
        before = self.stored()
        self.calls.append((name, None))
        self.versions = {other: self.versions[other] for other in self.versions if other != name}
        return before - self.stored()

    def back_to(self, many):
        calls, self.calls, self.versions = self.calls[:many], [], {}
        for name, spans in calls:
            if spans is None:
                self.drop(name)
            else:
                self.add(name, spans)

    def undo(self):
        self.back_to(len(self.calls) - 1)
        self.marks = [many for many in self.marks if many <= len(self.calls)]

    def mark(self):
        self.marks.append(len(self.calls))
        return len(self.marks) - 1

    def undo_to(self, index):
        self.back_to(self.marks[index])
        self.marks = self.marks[:index + 1]

    def twin(self):
        other = Slow(*self.given)
        other.versions, other.calls, other.marks = dict(self.versions), list(self.calls), list(self.marks)
        return other


def span_list(cells):
    """The span list of some cells in order, one by one."""
    found = []
    for cell in cells:
        if found and found[-1][1] == cell - 1:
            found[-1] = (found[-1][0], cell)
        else:
            found.append((cell, cell))
    return found


def some_spans(random, most):
    """Spans with some cells, often neighbouring ones or the same ones again."""
    found, many = [], 0
    for _ in range(random.randint(1, 6)):
        first = random.choice([random.randint(0, 20), found[-1][1] + 1 if found else 0, 0])
        last = first + random.choice([0, 1, 4, 9])
        if many + last - first + 1 > most:
            break
        found.append((first, last))
        many += last - first + 1
    return found or [(3, 3)]


def some_store(random):
    settings = random.choice([(1, 1, 1), (1, 2, 3), (2, 4, 5), (3, 3, 7), (2, 2, 2), (1, 1, 5), (4, 5, 9)])
    marking = sorted(random.sample(range(25), random.randint(0, 9)))
    return settings, marking, [cell for cell in marking if random.random() < 0.5]


class VersionTest(unittest.TestCase):
    def check(self, settings, marking, strict, spans):
        told = (settings, marking, strict, spans)
        store, slow = Store(settings, marking, strict), Slow(settings, marking, strict)
        self.assertEqual(store.add("a", spans), slow.add("a", spans), told)
        self.assertEqual(store.cuts_of("a"), slow.cuts(spans), told)
        expected = [span_list(cells) for cells in slow.pieces(spans)]
        self.assertEqual(store.pieces_of("a"), expected, told)
        self.assertEqual(store.stored, slow.stored(), told)

    def test_an_example(self):
        store = Store(SETTINGS, MARKING, STRICT)
        self.assertEqual(store.add("a", [(0, 19)]), (5, 20))
        # The row has the marks 3, 7, 8 and 13, of which 3 and 8 are strict.
        self.assertEqual(store.cuts_of("a"), [0, 3, 7, 12, 17, 20])
        self.assertEqual(store.pieces_of("a"), [[(0, 2)], [(3, 6)], [(7, 11)], [(12, 16)], [(17, 19)]])
        self.assertEqual(store.add("b", [(0, 3), (4, 6), (30, 31), (7, 11)]), (2, 7))
        self.assertEqual(store.cuts_of("b"), [0, 3, 7, 10, 14])
        self.assertEqual(store.pieces_of("b"), [[(0, 2)], [(3, 6)], [(30, 31), (7, 7)], [(8, 11)]])
        self.assertEqual(store.stored, 27)
        self.assertEqual(store.shared("a", "b"), 2)
        self.assertEqual(store.alone(["a"]), 13)
        self.assertEqual(store.alone(["b"]), 7)
        self.assertEqual(store.alone(["b", "a"]), 27)
        self.assertEqual(store.alone([]), 0)
        self.assertEqual(len(store), 2)
        self.assertEqual(store.drop("a"), 13)
        self.assertEqual(store.stored, 14)

    def test_a_mark_at_the_end_is_none(self):
        store = Store(SETTINGS, [2, 6], [2])
        self.assertEqual(store.add("a", [(0, 2)]), (1, 3))
        self.assertEqual(store.cuts_of("a"), [0, 3])
        self.assertEqual(store.add("b", [(0, 2), (0, 2)]), (0, 0))
        self.assertEqual(store.pieces_of("b"), [[(0, 2)], [(0, 2)]])

    def test_neighbouring_tuples_are_joined(self):
        store = Store((9, 9, 9), [], [])
        store.add("a", [(5, 6), (7, 7), (8, 8), (9, 11), (12, 14), (14, 15), (17, 17), (16, 16), (17, 18)])
        self.assertEqual(store.pieces_of("a"), [[(5, 13)], [(14, 14), (14, 15), (17, 17), (16, 18)]])
        store.add("b", [(5, 13)])
        self.assertEqual(store.shared("a", "b"), 1)

    def test_a_cell_that_comes_twice(self):
        store = Store((1, 1, 2), [5], [5])
        store.add("a", [(5, 5), (5, 5), (4, 6)])
        self.assertEqual(store.cuts_of("a"), [0, 1, 2, 4, 5])
        self.assertEqual(store.pieces_of("a"), [[(5, 5)], [(5, 5)], [(4, 5)], [(6, 6)]])
        self.assertEqual(store.stored, 4)

    def test_equal_pieces_within_one_version(self):
        store = Store((3, 3, 3), [], [])
        self.assertEqual(store.add("a", [(0, 2), (0, 2), (7, 9), (0, 2)]), (2, 6))
        self.assertEqual(store.stored, 6)
        self.assertEqual(store.shared("a", "a"), 2)
        self.assertEqual(store.add("b", [(0, 2), (7, 8)]), (1, 2))
        self.assertEqual(store.shared("a", "b"), 1)
        self.assertEqual(store.shared("b", "a"), 1)
        self.assertEqual(store.drop("a"), 3)

    def test_small_versions_cell_by_cell(self):
        random = Random(81)
        for _ in range(1500):
            settings, marking, strict = some_store(random)
            self.check(settings, marking, strict, some_spans(random, 40))

    def test_more_than_four_hundred_marks(self):
        store = Store((10, 12, 15), list(range(0, 100)), list(range(0, 100, 7)))
        spans = [(0, 9)] * 200
        self.assertEqual(store.add("a", spans), Slow((10, 12, 15), list(range(100)), list(range(0, 100, 7))).add("a", spans))
        self.check((10, 12, 15), list(range(100)), list(range(0, 100, 7)), [(0, 9)] * 199 + [(3, 12)])
        store = Store((200, 300, 400), list(range(0, 200, 2)), [])
        store.add("a", [(0, 199)] * 200)
        # The marks are 1, 3, 5 and so on, so each piece but the first one and the last one has the normal length.
        self.assertEqual(store.cuts_of("a"), [0] + list(range(301, 40000, 300)) + [40000])

    def test_great_cells(self):
        least = 10 ** 27
        store = Store((least, 2 * least, 3 * least), [10 ** 29, GREAT - 5], [10 ** 29])
        spans = [(10 ** 29 - 2 * least, 10 ** 29 + 5), (GREAT - least, GREAT)]
        self.assertEqual(store.add("a", spans), (2, 3 * least + 7))
        self.assertEqual(store.cuts_of("a"), [0, 2 * least + 1, 3 * least + 7])
        self.assertEqual(store.pieces_of("a"), [[(10 ** 29 - 2 * least, 10 ** 29)],
                                                [(10 ** 29 + 1, 10 ** 29 + 5), (GREAT - least, GREAT)]])
        self.assertEqual(store.add("b", [(5, 4 + 200 * least)]), (67, 200 * least))
        self.assertEqual(store.stored, 203 * least + 7)
        self.assertEqual(store.alone(["a", "b"]), 203 * least + 7)
        self.assertEqual(store.drop("b"), 200 * least)

    def test_great_versions_by_their_rows(self):
        random = Random(82)
        for _ in range(60):
            least = random.randint(1, 10 ** random.choice([3, 12, 26]))
            settings = (least, least + random.randint(0, least), 2 * least + random.randint(0, least))
            first = random.randint(0, 10 ** 28)
            marking = sorted({random.randrange(first, first + 20 * least) for _ in range(random.randint(1, 99))})
            strict = [cell for cell in marking if random.random() < 0.5]
            # The content is one stretch of cells, in spans that touch.
            ends = sorted({random.randrange(first, first + 20 * least) for _ in range(20)} | {first + 20 * least})
            spans = list(zip([first] + [end + 1 for end in ends], ends))
            marks = [cell + 1 - first for cell in marking]
            row = Row(20 * least + 1, marks, [cell + 1 - first for cell in strict])
            store = Store(settings, marking, strict)
            cuts = walk(row, settings, 0)
            pieces = [[(first + begin, first + end - 1)] for begin, end in zip(cuts, cuts[1:])]
            self.assertEqual(store.add("a", spans), (len(pieces), 20 * least + 1))
            self.assertEqual(store.cuts_of("a"), cuts)
            self.assertEqual(store.pieces_of("a"), pieces)


class SequenceTest(unittest.TestCase):
    def check(self, store, slow, told):
        self.assertEqual(len(store), len(slow.versions), told)
        self.assertEqual(store.stored, slow.stored(), told)
        names = sorted(slow.versions)
        for name in names:
            self.assertEqual(store.cuts_of(name), slow.cuts(slow.versions[name]), told)
            self.assertEqual(store.pieces_of(name), [span_list(cells) for cells in slow.pieces(slow.versions[name])])
            self.assertEqual(store.alone([name]), slow.alone([name]), told)
            for other in names:
                self.assertEqual(store.shared(name, other), len(slow.of([name]) & slow.of([other])), told)
        for chosen in [[], names, names[::-2], names[:2]]:
            self.assertEqual(store.alone(chosen), slow.alone(chosen), told)
        for name in ["a", "b", "c", "d"]:
            if name not in slow.versions:
                for call in [store.drop, store.cuts_of, store.pieces_of]:
                    with self.assertRaises(InvalidName):
                        call(name)

    def step(self, random, store, slow):
        """One call, the same in both; what it was."""
        name = random.choice("abcd")
        word = random.choice(["add", "add", "add", "drop", "drop", "undo", "mark", "undo_to"])
        if word == "add":
            spans = some_spans(random, 30)
            if name in slow.versions:
                with self.assertRaises(InvalidName):
                    store.add(name, spans)
            else:
                self.assertEqual(store.add(name, spans), slow.add(name, spans))
            return word, name, spans
        if word == "drop":
            if name in slow.versions:
                self.assertEqual(store.drop(name), slow.drop(name))
            else:
                with self.assertRaises(InvalidName):
                    store.drop(name)
            return word, name
        if word == "undo":
            if slow.calls:
                self.assertIsNone(store.undo())
                slow.undo()
            else:
                with self.assertRaises(NothingToUndo):
                    store.undo()
            return word
        if word == "mark":
            self.assertEqual(store.mark(), slow.mark())
            return word
        index = random.randint(-1, len(slow.marks))
        if 0 <= index < len(slow.marks):
            self.assertIsNone(store.undo_to(index))
            slow.undo_to(index)
        else:
            with self.assertRaises(InvalidNumber):
                store.undo_to(index)
        return word, index

    def test_sequences(self):
        random = Random(83)
        for _ in range(60):
            given = some_store(random)
            store, slow = Store(*given), Slow(*given)
            told = [given]
            for _ in range(40):
                told.append(self.step(random, store, slow))
                self.check(store, slow, told)

    def test_twins_go_on_independently(self):
        random = Random(84)
        for _ in range(30):
            given = some_store(random)
            pairs = [(Store(*given), Slow(*given))]
            told = [given]
            for number in range(50):
                if number in (12, 20, 30):
                    store, slow = random.choice(pairs)
                    pairs.append((store.twin(), slow.twin()))
                at = random.randrange(len(pairs))
                told.append((at, self.step(random, *pairs[at])))
                for store, slow in pairs:
                    self.check(store, slow, told)


class UndoTest(unittest.TestCase):
    def setUp(self):
        self.store = Store(SETTINGS, MARKING, STRICT)

    def test_nothing_to_undo(self):
        with self.assertRaises(NothingToUndo):
            self.store.undo()
        self.store.add("a", [(0, 9)])
        self.store.undo()
        self.assertEqual(len(self.store), 0)
        # An add that is undone is not there to be undone again.
        with self.assertRaises(NothingToUndo):
            self.store.undo()
        self.assertEqual(self.store.add("a", [(0, 9)]), (3, 10))

    def test_undo_of_a_drop(self):
        self.store.add("a", [(0, 9)])
        pieces = self.store.pieces_of("a")
        self.store.drop("a")
        self.store.undo()
        self.assertEqual(self.store.pieces_of("a"), pieces)
        self.assertEqual(self.store.stored, 10)
        self.store.undo()
        self.assertEqual((len(self.store), self.store.stored), (0, 0))

    def test_a_name_that_is_dropped_and_added_again(self):
        self.store.add("a", [(0, 9)])
        self.store.drop("a")
        self.store.add("a", [(3, 5)])
        self.store.undo()
        self.store.undo()
        self.assertEqual(self.store.cuts_of("a")[-1], 10)

    def test_marks(self):
        self.assertEqual(self.store.mark(), 0)
        self.assertEqual(self.store.mark(), 1)
        self.store.add("a", [(0, 9)])
        self.assertEqual(self.store.mark(), 2)
        self.store.add("b", [(0, 9)])
        self.assertEqual(self.store.mark(), 3)
        self.store.undo()
        # Only the mark behind the undone call is gone.
        self.assertEqual(self.store.mark(), 3)
        with self.assertRaises(InvalidNumber):
            self.store.undo_to(4)
        self.store.undo()
        self.assertEqual(self.store.mark(), 2)
        self.store.undo_to(2)
        self.assertEqual(self.store.mark(), 3)

    def test_undo_that_raises_leaves_marks(self):
        self.store.mark()
        self.store.mark()
        with self.assertRaises(NothingToUndo):
            self.store.undo()
        self.assertEqual(self.store.mark(), 2)

    def test_undo_to_a_mark_twice(self):
        self.store.add("a", [(0, 9)])
        self.assertEqual(self.store.mark(), 0)
        self.store.drop("a")
        self.store.add("b", [(0, 9)])
        self.assertEqual(self.store.mark(), 1)
        self.store.undo_to(0)
        self.assertEqual(len(self.store), 1)
        self.assertEqual(self.store.cuts_of("a")[-1], 10)
        self.store.add("c", [(0, 9)])
        self.store.undo_to(0)
        self.store.undo_to(0)
        self.assertEqual(len(self.store), 1)
        with self.assertRaises(InvalidNumber):
            self.store.undo_to(1)
        # It keeps the mark, and is not itself undone: the add before the mark is.
        self.store.undo()
        self.assertEqual(len(self.store), 0)
        with self.assertRaises(InvalidNumber):
            self.store.undo_to(0)
        self.assertEqual(self.store.mark(), 0)

    def test_later_marks_at_the_same_call_go_too(self):
        self.store.mark()
        self.store.mark()
        self.store.undo_to(0)
        self.assertEqual(self.store.mark(), 1)

    def test_wrong_indices(self):
        self.store.add("a", [(0, 9)])
        for index in [0, -1, 1, GREAT, -GREAT, True, False]:
            with self.assertRaises(InvalidNumber):
                self.store.undo_to(index)
        self.store.mark()
        self.store.mark()
        self.store.add("b", [(0, 9)])
        for index in [-1, -2, 2, GREAT, -GREAT, True, False]:
            with self.assertRaises(InvalidNumber):
                self.store.undo_to(index)
        self.assertEqual(len(self.store), 2)
        self.assertIsNone(self.store.undo_to(index=1))
        self.assertEqual(len(self.store), 1)

    def test_identity(self):
        twin = self.store.twin()
        self.assertIsInstance(twin, Store)
        self.assertFalse(self.store == twin)
        self.assertTrue(self.store != twin)
        self.assertTrue(self.store == self.store)
        self.assertFalse(self.store == Store(SETTINGS, MARKING, STRICT))
        for other in ODD_THINGS:
            self.assertIs(self.store == other, False)
        self.assertEqual(len({self.store: 1, twin: 2}), 2)

    def test_a_twin_has_calls_and_marks(self):
        self.store.add("a", [(0, 9)])
        self.store.mark()
        self.store.drop("a")
        twin = self.store.twin()
        twin.undo_to(0)
        self.assertEqual((len(twin), len(self.store)), (1, 0))
        self.store.undo()
        self.store.undo()
        self.assertEqual((len(twin), len(self.store)), (1, 0))
        self.assertEqual(twin.mark(), 1)
        self.assertEqual(twin.cuts_of("a")[-1], 10)
        self.assertEqual(twin.add("b", [(0, 9)]), (0, 0))


class ArgumentsTest(unittest.TestCase):
    def setUp(self):
        self.store = Store(SETTINGS, MARKING, STRICT)
        self.store.add("a", [(0, 9)])
        self.store.add("bb", [(5, 9)])

    def test_settings(self):
        for settings in wrong_settings():
            with self.assertRaises(InvalidSettings):
                Store(settings, None, None)
        Store((2, 2, 3000), [], [])

    def test_marking_that_is_any_object(self):
        wrong = [thing for thing in wrong_lists(0, 9) if thing not in ([10], [0, 10], [GREAT])]
        wrong += [[3, 3], [4, 3], [0, 0], [-1, 3], list(range(101)), (0, 1), [1, 2, 2]]
        for marking in wrong:
            with self.assertRaises(InvalidSpans, msg=repr(marking)):
                Store(SETTINGS, marking, [])
        for marking in [[], [0], [GREAT], [0, GREAT], list(range(100))]:
            Store(SETTINGS, marking, [])
            Store(SETTINGS, marking, marking)

    def test_strict_that_is_any_object(self):
        for strict in wrong_lists(0, 6) + [[1], [0, 1], [3, 0], [0, 0], (0,), [0, 3, 5]]:
            with self.assertRaises(InvalidSpans, msg=repr(strict)):
                Store(SETTINGS, [0, 3], strict)
        for strict in [[], [0], [3], [0, 3]]:
            Store(SETTINGS, [0, 3], strict)
        with self.assertRaises(InvalidSpans):
            Store(SETTINGS, [], [0])

    def test_names_for_new_versions(self):
        wrong = ODD_THINGS + [0, 1, [], ["c"], ("c",), "abcdefghi", "A", "aB", "c1", "c ", " c", "c-d", "c\n", "a", "bb", "_", "{", "`", self.store]
        for name in wrong:
            with self.assertRaises(InvalidName, msg=repr(name)):
                self.store.add(name, None)
            with self.assertRaises(InvalidName, msg=repr(name)):
                self.store.add(name, [(0, 9)])
        self.assertEqual(len(self.store), 2)
        for name in ["c", "z", "abcdefgh", "zzzzzzzz", "b"]:
            self.store.add(name, [(0, 9)])
        self.assertEqual(len(self.store), 7)

    def test_names_of_versions(self):
        wrong = ODD_THINGS + [0, 1, [], ["a"], ("a",), "b", "aa", "A", "abcdefghi", "a ", "", ["a", "bb"], self.store, Loop(1, [], [])]
        stored = self.store.stored
        for name in wrong:
            for call in [self.store.drop, self.store.cuts_of, self.store.pieces_of]:
                with self.assertRaises(InvalidName, msg=repr(name)):
                    call(name)
            for pair in [(name, "a"), ("a", name), (name, name)]:
                with self.assertRaises(InvalidName, msg=repr(name)):
                    self.store.shared(*pair)
            for names in [[name], ["a", name], [name, "a"]]:
                with self.assertRaises(InvalidName, msg=repr(names)):
                    self.store.alone(names)
        for names in ODD_THINGS + [["a", "a"], ["a", "bb", "a"], ("a",), ("a", "bb"), (), "a", "bb", {"a": 1}, 1, self.store]:
            with self.assertRaises(InvalidName, msg=repr(names)):
                self.store.alone(names)
        self.assertEqual((len(self.store), self.store.stored), (2, stored))

    def test_spans_that_are_any_object(self):
        wrong = ODD_THINGS + [0, 5, (), [], (0, 5), ((0, 5),), [[0, 5]], {"a": (0, 5)}]
        for thing in NO_INTEGERS + [0, (0,), (0, 1, 2), [(0, 1)], [0, 1]]:
            wrong += [[thing], [(0, 5), thing], [thing, (0, 5)]]
        for thing in NO_INTEGERS:
            wrong += [[(thing, 5)], [(0, thing)], [(0, 5), (thing, 7)]]
        wrong += [[(5, 4)], [(-1, 4)], [(-3, -1)], [(0, 5), (3, 2)], [(False, 5)], [(0, True)], [(GREAT, 0)]]
        wrong += [[(0, 400)], [(0, 399), (7, 7)], [(0, GREAT)], [(0, 0)] * 201, [(0, 1)] * 200 + [(0, 0)]]
        stored = self.store.stored
        for spans in wrong:
            with self.assertRaises(InvalidSpans, msg=repr(spans)):
                self.store.add("c", spans)
            with self.assertRaises(InvalidName):
                self.store.add("a", spans)
        self.assertEqual((len(self.store), self.store.stored), (2, stored))
        self.assertEqual(self.store.add("c", [(20, 419)])[1], 400)
        for name, spans in [("d", [(0, 0)] * 200), ("e", [(0, 1)] * 200), ("f", [(0, 199), (5, 204)]), ("g", [(GREAT, GREAT)])]:
            self.store.add(name, spans)
        self.assertEqual(self.store.cuts_of("e")[-1], 400)
        self.assertEqual(self.store.pieces_of("g"), [[(GREAT, GREAT)]])

    def test_calls_that_raise_leave_all(self):
        self.store.mark()
        self.store.add("c", [(0, 9)])
        for call in [lambda: self.store.add("c", [(0, 9)]), lambda: self.store.add("d", []), lambda: self.store.drop("d")]:
            with self.assertRaises((InvalidName, InvalidSpans)):
                call()
        self.store.undo()
        self.assertEqual(len(self.store), 2)
        self.assertEqual(self.store.mark(), 1)

    def test_lists_stand_alone(self):
        marking, strict, spans = [2, 6, 7, 12], [2, 7], [(0, 9), (5, 9)]
        store = Store(SETTINGS, marking, strict)
        marking.clear()
        strict.clear()
        store.add("a", spans)
        spans.clear()
        expected = Store(SETTINGS, MARKING, STRICT)
        expected.add("a", [(0, 9), (5, 9)])
        self.assertEqual(store.cuts_of("a"), expected.cuts_of("a"))
        self.assertEqual(store.pieces_of("a"), expected.pieces_of("a"))
        store.cuts_of("a").clear()
        store.pieces_of("a")[0].append((1, 2))
        store.pieces_of("a").clear()
        self.assertEqual(store.cuts_of("a"), expected.cuts_of("a"))
        self.assertEqual(store.pieces_of("a"), expected.pieces_of("a"))
        names = ["a"]
        store.alone(names)
        self.assertEqual(names, ["a"])
        found = Store((3, 3, 3), [], [])
        found.add("a", [(0, 2), (0, 2)])
        pieces = found.pieces_of("a")
        self.assertIsNot(pieces[0], pieces[1])

    def test_arguments_by_name(self):
        store = Store(strict=STRICT, marking=MARKING, settings=SETTINGS)
        self.assertEqual(store.add(spans=[(0, 9)], name="a"), (3, 10))
        self.assertEqual(store.add(spans=[(0, 9)], name="b"), (0, 0))
        self.assertEqual(store.shared(other="b", name="a"), 3)
        self.assertEqual(store.alone(names=["a", "b"]), 10)
        self.assertEqual(store.cuts_of(name="a"), [0, 3, 7, 10])
        self.assertEqual(store.pieces_of(name="a"), [[(0, 2)], [(3, 6)], [(7, 9)]])
        self.assertEqual(store.drop(name="a"), 0)
        self.assertIs(type(store.add("c", [(3, 3)])), tuple)


if __name__ == "__main__":
    unittest.main()
