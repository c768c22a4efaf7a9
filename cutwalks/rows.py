"""Rows: a length, and marks that are plain or strict."""

from cutwalks.checks import are_marks, are_places, are_some_of, check_place, is_change, is_integer
from cutwalks.errors import InvalidChange, InvalidKind, InvalidPlace, InvalidRow

KINDS = ("none", "plain", "strict")


class Row:
    """A row of cells; it never changes, its methods return new rows."""

    def __init__(self, length, marks, strict):
        if not is_integer(length) or length < 1:
            raise InvalidRow("the length of a row is an integer from 1 on")
        if not are_marks(marks, length - 1):
            raise InvalidRow("marks are at most 400 places within the row, ascending")
        if not are_some_of(strict, marks):
            raise InvalidRow("strict marks are some of the marks, ascending")
        self._length = length
        self._marks = list(marks)
        self._strict = list(strict)

    @property
    def length(self):
        """The number of cells."""
        return self._length

    @property
    def marks(self):
        """A new list of all marks."""
        return list(self._marks)

    @property
    def strict(self):
        """A new list of the strict marks."""
        return list(self._strict)

    def __len__(self):
        return len(self._marks)

    def __contains__(self, place):
        return is_integer(place) and place in self._marks

    def __eq__(self, other):
        if not isinstance(other, Row):
            return False
        if self._length != other._length:
            return False
        return self._marks == other._marks and self._strict == other._strict

    def with_marks(self, places, is_strict):
        """The row in which these places are marks of this strength."""
        self._check_inner(places)
        given = set(places)
        marks = sorted(set(self._marks) | set(places))
        strict = [mark for mark in self._strict if mark not in given]
        if is_strict:
            strict = sorted(set(self._strict) | set(places))
        return Row(self._length, marks, strict)

    def without_marks(self, places):
        """The row in which these places are no marks."""
        self._check_inner(places)
        gone = set(places)
        marks = [mark for mark in self._marks if mark not in gone]
        strict = [mark for mark in self._strict if mark not in gone]
        return Row(self._length, marks, strict)

    def joined(self, other, kind):
        """The row with the other one behind it; kind is what the place between them is."""
        if kind not in KINDS:
            raise InvalidKind("a place is none, plain or strict")
        between = [] if kind == "none" else [self._length]
        firm = between if kind == "strict" else []
        marks = self._marks + between + shifted(other.marks, self._length)
        strict = self._strict + firm + shifted(other.strict, self._length)
        return Row(self._length + other.length, marks, strict)

    def part(self, begin, end):
        """The row of the cells between two places."""
        check_place(begin, 0, self._length)
        check_place(end, begin + 1, self._length)
        marks = [mark - begin for mark in self._marks if begin < mark < end]
        strict = [mark - begin for mark in self._strict if begin < mark < end]
        return Row(end - begin, marks, strict)

    def changed(self, change):
        """The row that the change makes of this one."""
        if not is_change(change, self._length):
            raise InvalidChange("not a change of this row")
        length, marks, strict = changed_parts(self, change)
        return Row(length, marks, strict)

    def _check_inner(self, places):
        """InvalidPlace unless any object is a list of places where marks may stand."""
        if not are_places(places, 1, self._length - 1):
            raise InvalidPlace("places of marks are a list of places within the row")


def shifted(places, number):
    """The places, each greater by number."""
    return [place + number for place in places]


def changed_parts(row, change):
    """Length, marks and strict marks of the row that a valid change makes."""
    begin, end, length, marks, strict = change
    new_length = row.length - (end - begin) + length
    new_marks = replaced(row.marks, marks, change, new_length)
    new_strict = replaced(row.strict, strict, change, new_length)
    return new_length, new_marks, new_strict


def replaced(old, new, change, new_length):
    """The marks old of a row and new of its change, where they stand in the changed row."""
    begin, end, length, _, _ = change
    # If nothing is left behind begin, begin is the end of the changed row, where no mark stands.
    before = [mark for mark in old if mark <= begin and mark < new_length]
    behind = [mark for mark in old if mark > end]
    return before + shifted(new, begin) + shifted(behind, length - (end - begin))
