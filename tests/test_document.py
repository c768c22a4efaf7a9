"""Point [2] over the whole program: equal results, arguments that stay, new lists, names, and kinds of arguments."""

import inspect
import unittest
from copy import deepcopy

from cutwalks import changes, errors, helpers, knowledge, loops, meetings, ranges, session, starts, texts, walks
from cutwalks.errors import (
    Clash, CutError, InvalidChange, InvalidCuts, InvalidLoop, InvalidName, InvalidNumber, InvalidPieces, InvalidPlace,
    InvalidRanges, InvalidRow, InvalidSettings, InvalidSpans, InvalidText, NothingToUndo, TooLarge)
from cutwalks.loops import Loop
from cutwalks.rows import Row
from cutwalks.store import Store
from model import ODD_THINGS, wrong_settings

ROW = {"row": Row(20, [3, 7, 8, 13], [3, 8]), "settings": (2, 4, 5)}
LOOP = {"loop": Loop(7, [0, 3], [0]), "settings": (2, 4, 5)}
KNOWN = {"length": 20, "settings": (2, 4, 5), "pieces": [(0, 3), (3, 8)]}
OPEN = {**ROW, "begin": 4, "end": 6, "length": 9}

# All functions of the interface, with arguments that are right.
CALLS = [
    (walks.next_cut, {**ROW, "place": 4}),
    (walks.walk, {**ROW, "start": 4}),
    (walks.first_from, {**ROW, "start": 4, "place": 9}),
    (walks.cuts_within, {**ROW, "start": 4, "low": 5, "high": 15}),
    (walks.settings_for, {"row": ROW["row"], "cuts": [4, 8, 13, 18, 20]}),
    (ranges.image, {**ROW, "ranges": [(0, 2), (4, 6)]}),
    (ranges.first_cuts, {**ROW, "ranges": [(0, 2), (4, 6)], "place": 9}),
    (meetings.entries, {**ROW, "place": 4}),
    (meetings.meeting, {**ROW, "first": 4, "second": 6}),
    (meetings.sure_cut, {**ROW, "place": 4}),
    (meetings.last_apart, {**ROW, "place": 4}),
    (meetings.apart, {**ROW, "place": 4, "far": 9}),
    (meetings.meeting_paper, {**ROW, "place": 4}),
    (meetings.shows_meeting, {**ROW, "place": 4, "thing": (6, 3)}),
    (starts.basin, {**ROW, "cut": 8}),
    (starts.share, {**ROW, "cut": 8}),
    (starts.sure_for, {**ROW, "ranges": [(4, 6)]}),
    (starts.partners, {**ROW, "start": 4}),
    (helpers.fewest_marks, {"settings": (2, 4, 5), "is_strict": True}),
    (helpers.helping_marks, {"settings": (2, 4, 5), "place": 7, "is_strict": False}),
    (helpers.taken, {**ROW, "place": 4}),
    (helpers.needed, {**ROW, "place": 4}),
    (changes.rejoin, {**ROW, "change": (4, 6, 3, [2], [])}),
    (changes.effect, {**ROW, "change": (4, 6, 3, [2, 3], [3])}),
    (changes.entries_behind, OPEN),
    (changes.latest_rejoin, OPEN),
    (changes.earliest_rejoin, OPEN),
    (changes.worst_change, OPEN),
    (changes.best_change, OPEN),
    (loops.loop_step, {**LOOP, "place": -4}),
    (loops.ring_of, {**LOOP, "place": -4}),
    (loops.rings, LOOP),
    (loops.turning, LOOP),
    (loops.mean, LOOP),
    (loops.never_meet, LOOP),
    (loops.loop_meeting, {**LOOP, "first": -4, "second": 30}),
    (knowledge.kinds_at, {**KNOWN, "place": 4}),
    (knowledge.steps_from, {**KNOWN, "place": 4}),
    (knowledge.possible_cuts, {**KNOWN, "start": 0}),
    (knowledge.sure_cuts, {**KNOWN, "start": 0}),
    (knowledge.row_through, {**KNOWN, "start": 0, "place": 12}),
    (knowledge.row_around, {**KNOWN, "start": 0, "place": 12}),
    (texts.write_row, {"row": ROW["row"]}),
    (texts.read_row, {"text": "20: 3! 7"}),
    (texts.write_settings, {"settings": (2, 4, 5)}),
    (texts.read_settings, {"text": "2-4-5"}),
    (texts.write_change, {"change": (4, 6, 3, [2, 3], [3])}),
    (texts.read_change, {"text": "4-6 by 3: 2! 3!"}),
    (session.session, {"rows": "row 20: 3! 7\nsettings 2-4-5\nwalk 0"}),
    (Row, {"length": 20, "marks": [3, 7], "strict": [3]}),
    (Loop, {"period": 20, "marks": [3, 7], "strict": [3]}),
]

# Methods, of the object that a call makes, with arguments that are right.
METHODS = [
    (lambda: Row(20, [3, 7, 8, 13], [3, 8]), "with_marks", {"places": [5, 7], "is_strict": True}),
    (lambda: Row(20, [3, 7, 8, 13], [3, 8]), "without_marks", {"places": [5, 7]}),
    (lambda: Row(20, [3, 7, 8, 13], [3, 8]), "joined", {"other": Row(4, [2], []), "kind": "strict"}),
    (lambda: Row(20, [3, 7, 8, 13], [3, 8]), "part", {"begin": 3, "end": 9}),
    (lambda: Row(20, [3, 7, 8, 13], [3, 8]), "changed", {"change": (4, 6, 3, [2, 3], [3])}),
    (lambda: Loop(7, [0, 3], [0]), "moved", {"number": -30}),
    (lambda: Loop(7, [0, 3], [0]), "repeated", {"times": 3}),
    (lambda: some_store(), "add", {"name": "c", "spans": [(0, 4), (30, 33)]}),
    (lambda: some_store(), "drop", {"name": "a"}),
    (lambda: some_store(), "cuts_of", {"name": "a"}),
    (lambda: some_store(), "pieces_of", {"name": "a"}),
    (lambda: some_store(), "alone", {"names": ["a", "b"]}),
    (lambda: some_store(), "shared", {"name": "a", "other": "b"}),
    (lambda: some_store(), "undo", {}),
    (lambda: some_store(), "mark", {}),
    (lambda: some_store(), "undo_to", {"index": 0}),
]

# The error of a wrong argument of this name, if no other one is told for the function.
ERRORS = {
    "settings": InvalidSettings, "ranges": InvalidRanges, "change": InvalidChange, "cuts": InvalidCuts,
    "pieces": InvalidPieces, "marking": InvalidSpans, "spans": InvalidSpans, "name": InvalidName, "names": InvalidName,
    "other": InvalidName, "index": InvalidNumber, "number": InvalidNumber, "times": InvalidNumber, "places": InvalidPlace,
}
ERRORS.update({name: InvalidPlace for name in ["place", "start", "first", "second", "cut", "low", "high", "far", "begin", "end"]})


def some_store():
    store = Store((2, 4, 5), [2, 6, 7, 12], [2, 7])
    store.mark()
    store.add("a", [(0, 19)])
    store.add("b", [(0, 9), (0, 5)])
    return store


def error_of(function, name):
    """The error of an argument of this name in a function."""
    if name in ("begin", "end", "length") and function.__module__ == "cutwalks.changes":
        return InvalidChange
    if name == "length" and function.__module__ == "cutwalks.knowledge":
        return InvalidNumber
    if function in (Row, Loop):
        return InvalidRow if function is Row else InvalidLoop
    return ERRORS[name]


def lists_in(thing):
    """All lists in a value, also those inside others, and of rows and loops the ones that they give."""
    found = [thing] if isinstance(thing, list) else []
    if isinstance(thing, (list, tuple)):
        for part in thing:
            found += lists_in(part)
    return found


def is_like(one, other):
    """Whether two results are equal and of the same kinds throughout."""
    if type(one) is not type(other):
        return False
    if isinstance(one, (list, tuple)):
        return len(one) == len(other) and all(is_like(part, again) for part, again in zip(one, other))
    return one == other


def calls():
    """(what is called, its arguments) for all functions, and for all methods, each of an object of its own."""
    for function, arguments in CALLS:
        yield function, function, arguments
    for make, name, arguments in METHODS:
        yield getattr(type(make()), name), method_call(make, name), arguments


def method_call(make, method):
    """A method as a function, of a new object each time."""
    return lambda **told: getattr(make(), method)(**told)


class WholeProgramTest(unittest.TestCase):
    def test_the_table_has_all_functions(self):
        told = {function for function, _ in CALLS} | {getattr(type(make()), name) for make, name, _ in METHODS}
        for module in [walks, ranges, meetings, starts, helpers, changes, loops, knowledge, texts, session]:
            named = [function for function, _ in CALLS if function.__module__ == module.__name__]
            self.assertGreater(len(named), 0)
        self.assertEqual(len(told), len(CALLS) + len(METHODS))

    def test_arguments_in_the_order_of_the_signature_and_by_name(self):
        for function, call, arguments in calls():
            names = [name for name in inspect.signature(function).parameters if name != "self"]
            self.assertEqual(names, list(arguments), function)
        for function, arguments in CALLS:
            self.assertTrue(is_like(function(**arguments), function(*arguments.values())), function)
            turned = dict(reversed(list(arguments.items())))
            self.assertTrue(is_like(function(**turned), function(**arguments)), function)
        for make, name, arguments in METHODS:
            told = getattr(make(), name)(*arguments.values())
            self.assertTrue(is_like(getattr(make(), name)(**arguments), told), name)

    def test_equal_calls_have_equal_results_and_arguments_stay(self):
        for function, call, arguments in calls():
            before = deepcopy(arguments)
            first = call(**arguments)
            self.assertEqual(arguments, before, function)
            self.assertTrue(is_like(call(**arguments), first), function)
            self.assertTrue(is_like(call(**before), first), function)

    def test_lists_are_new(self):
        for function, call, arguments in calls():
            given = lists_in(list(arguments.values()))[1:]
            first, second = call(**arguments), call(**arguments)
            told = lists_in(first) + lists_in(second)
            for at, one in enumerate(told):
                self.assertTrue(all(one is not other for other in told[:at] + given), function)

    def test_changing_a_result_changes_no_later_one(self):
        for function, call, arguments in calls():
            expected = deepcopy(call(**arguments))
            for found in lists_in(call(**arguments)):
                found.clear()
            self.assertTrue(is_like(call(**arguments), expected), function)

    def test_changing_a_list_that_was_passed_changes_no_result(self):
        for function, call, arguments in calls():
            passed = deepcopy(arguments)
            result = call(**passed)
            kept = deepcopy(result)
            for found in lists_in(list(passed.values()))[1:]:
                found.clear()
            self.assertTrue(is_like(result, kept), function)

    def test_results_hold_no_booleans_in_the_place_of_integers(self):
        for function, call, arguments in calls():
            result = call(**arguments)
            if function is meetings.shows_meeting:
                self.assertIs(result, True)
            else:
                self.assertNotIsInstance(result, bool)
                for part in [part for found in lists_in([result]) for part in found]:
                    self.assertNotIsInstance(part, bool)

    def test_booleans_in_the_place_of_integers(self):
        for function, call, arguments in calls():
            for name, value in arguments.items():
                if isinstance(value, int) and not isinstance(value, bool):
                    for thing in [True, False]:
                        with self.assertRaises(error_of(function, name), msg=(function, name)) as caught:
                            call(**{**arguments, name: thing})
                        self.assertIs(type(caught.exception), error_of(function, name))

    def test_any_object(self):
        """What is no value of an argument that may be any object raises its error, and never another one."""
        for function, call, arguments in calls():
            for name, value in arguments.items():
                if name == "thing" or not isinstance(value, (list, tuple)) and name not in ("name", "other"):
                    continue
                if function.__module__ == "cutwalks.texts" or isinstance(value, Row):
                    continue
                for thing in ODD_THINGS + [ROW["row"], LOOP["loop"], some_store(), [[]], ((),), [None], (None,), {"a": None}]:
                    with self.assertRaises(error_of(function, name), msg=(function, name, thing)) as caught:
                        call(**{**arguments, name: thing})
                    self.assertIs(type(caught.exception), error_of(function, name))

    def test_settings_that_are_any_object(self):
        for function, call, arguments in calls():
            if "settings" in arguments and function is not texts.write_settings:
                for settings in wrong_settings():
                    with self.assertRaises(InvalidSettings, msg=(function, settings)):
                        call(**{**arguments, "settings": settings})

    def test_the_first_wrong_argument_decides(self):
        """All arguments from one on are wrong, so the error is that of this one."""
        wrong = {"is_strict": True, "thing": None, "row": ROW["row"], "loop": LOOP["loop"], "kind": "strict", "number": True}
        for function, call, arguments in calls():
            if function.__module__ in ("cutwalks.texts", "cutwalks.session"):
                continue
            names = list(arguments)
            for at, name in enumerate(names):
                if name in wrong and name != "number" or isinstance(arguments[name], Row):
                    continue
                told = dict(arguments)
                for later in names[at:]:
                    if not isinstance(arguments[later], Row):
                        told[later] = wrong.get(later, True)
                with self.assertRaises(error_of(function, name), msg=(function, name)) as caught:
                    call(**told)
                self.assertIs(type(caught.exception), error_of(function, name), (function, name))

    def test_errors_are_those_of_the_document(self):
        subclasses = [kind for kind in vars(errors).values() if isinstance(kind, type)]
        self.assertEqual(len(subclasses), 17)
        for kind in subclasses:
            self.assertTrue(kind is CutError or kind.__bases__ == (CutError,))
        for kind in [InvalidRow, InvalidLoop, InvalidText, Clash, TooLarge, NothingToUndo]:
            self.assertTrue(issubclass(kind, ValueError))

    def test_values_that_are_returned_may_be_passed_again(self):
        row, settings = ROW["row"], ROW["settings"]
        for place in range(20):
            found = meetings.entries(row, settings, place)
            sure = starts.sure_for(row, settings, found)
            self.assertEqual(sure, meetings.sure_cut(row, settings, place))
            self.assertEqual(ranges.first_cuts(row, settings, found, max(found[-1][1], sure))[0][0], max(found[-1][1], sure))
            self.assertIs(meetings.shows_meeting(row, settings, place, meetings.meeting_paper(row, settings, place)), True)
            cuts = walks.walk(row, settings, place)
            low_least, _, low_normal, _, low_greatest, _ = walks.settings_for(row, cuts)
            normal = max(low_least, low_normal)
            smallest = (low_least, normal, max(normal, low_greatest))
            self.assertEqual(walks.walk(row, smallest, place), cuts)
            pieces = list(zip(cuts, cuts[1:]))
            self.assertEqual(knowledge.sure_cuts(20, settings, pieces, place), cuts)
            through = knowledge.row_through(20, settings, pieces, place, 20)
            self.assertEqual(walks.walk(through, settings, place), cuts)
            worst = changes.worst_change(row, settings, place, 20, 9)
            self.assertEqual(texts.read_change(texts.write_change(worst)), worst)
            self.assertEqual(changes.rejoin(row, settings, worst), 20)
            self.assertEqual(row.changed(worst).length, place + 9)


class MeaningTest(unittest.TestCase):
    """What several points say of the same thing."""

    def test_the_entries_are_the_first_cuts_of_rows_with_other_cells_before(self):
        """[3], [12]: all cells before a place are taken out, and enough others are put in."""
        row, settings = ROW["row"], ROW["settings"]
        for place in range(20):
            # In so many new cells the walk from 0 can do what a walk through any content can.
            told = changes.entries_behind(row, settings, 0, place, 30)
            self.assertEqual(told, meetings.entries(row, settings, place))
            latest = changes.latest_rejoin(row, settings, 0, place, 30)
            self.assertLessEqual(latest, 20)

    def test_a_store_of_one_span_is_a_row(self):
        row, settings = ROW["row"], ROW["settings"]
        store = some_store()
        self.assertEqual(store.cuts_of("a"), walks.walk(row, settings, 0))
        self.assertEqual(store.pieces_of("a"), [[(begin, end - 1)] for begin, end in zip([0, 3, 7, 12, 17], [3, 7, 12, 17, 20])])

    def test_a_loop_is_a_row_that_repeats(self):
        for marks, strict in [([0, 3], [0]), ([], []), ([1, 2, 6], [2]), ([5], [5])]:
            loop = Loop(7, marks, strict)
            places = [7 * number + mark for number in range(40) for mark in marks]
            firm = [7 * number + mark for number in range(40) for mark in strict]
            row = Row(280, [place for place in places if place > 0], [place for place in firm if place > 0])
            for place in range(100):
                self.assertEqual(loops.loop_step(loop, (2, 4, 5), place), walks.next_cut(row, (2, 4, 5), place))
            for first in range(20):
                for second in range(20):
                    found = loops.loop_meeting(loop, (2, 4, 5), first, second)
                    met = meetings.meeting(row, (2, 4, 5), first, second)
                    self.assertEqual(found if found is not None else 280, met)


if __name__ == "__main__":
    unittest.main()
