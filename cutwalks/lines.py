"""Lines: what walks need to know of a row, with any number of marks."""

from cutwalks.rows import changed_parts


class Line:
    """A length and marks, of valid values; the lists are kept as they are, and nobody changes them."""

    def __init__(self, length, marks, strict):
        self._length = length
        self._marks = marks
        self._strict = strict

    @property
    def length(self):
        """The number of cells."""
        return self._length

    @property
    def marks(self):
        """The list of all marks."""
        return self._marks

    @property
    def strict(self):
        """The list of the strict marks."""
        return self._strict


def changed_line(row, change):
    """The row that a valid change makes, also if it has more marks than rows may have."""
    length, marks, strict = changed_parts(row, change)
    return Line(length, marks, strict)
