"""The errors of the package: one class for each kind of failure."""


class CutError(ValueError):
    """What all errors of the package have in common."""


class InvalidRow(CutError):
    """The length, the marks or the strict marks of a row are wrong."""


class InvalidSettings(CutError):
    """Something is no settings."""


class InvalidPlace(CutError):
    """A number, or a list of numbers, is no place where one is needed."""


class InvalidRanges(CutError):
    """Something is no ranges."""


class InvalidChange(CutError):
    """Something is no change of the row."""


class InvalidCuts(CutError):
    """Something is no list of cuts of the row."""


class InvalidLoop(CutError):
    """The period, the marks or the strict marks of a loop are wrong."""


class InvalidPieces(CutError):
    """Something is no list of pieces that may be known."""


class InvalidKind(CutError):
    """A string is no kind of a place."""


class InvalidName(CutError):
    """A name of a version, or a list of names, is wrong."""


class InvalidSpans(CutError):
    """The spans of a version, or the marking of a store, are wrong."""


class InvalidNumber(CutError):
    """Another number is wrong."""


class TooLarge(CutError):
    """A row is too long for its settings, or a result would be too long."""


class NothingToUndo(CutError):
    """There is no call left that could be undone."""


class Clash(CutError):
    """Two pieces, with these indices, do not fit together."""

    def __init__(self, indices):
        super().__init__("two pieces do not fit together")
        self.indices = indices


class InvalidText(CutError):
    """The word of a text with this number cannot stand where it stands."""

    def __init__(self, place):
        super().__init__("a word cannot stand where it stands")
        self.place = place
