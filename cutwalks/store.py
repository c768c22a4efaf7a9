"""The store: versions of contents, of whose equal pieces one is stored."""

from cutwalks.checks import are_cells, are_some_of, check_settings, is_integer
from cutwalks.contents import are_spans, cells_between, content_line, count_cells, most_cells
from cutwalks.errors import InvalidName, InvalidNumber, InvalidSpans, NothingToUndo
from cutwalks.walks import cuts_from

MOST_MARKING = 100
LETTERS = "abcdefghijklmnopqrstuvwxyz"


class Version:
    """The cuts of a content, and its pieces as tuples of spans; it never changes."""

    def __init__(self, cuts, pieces):
        self.cuts = cuts
        self.pieces = pieces


class Store:
    """Versions that may be added and dropped, and calls that may be undone."""

    def __init__(self, settings, marking, strict):
        check_settings(settings)
        if not are_cells(marking) or len(marking) > MOST_MARKING:
            raise InvalidSpans("marking is at most 100 cells, ascending")
        if not are_some_of(strict, marking):
            raise InvalidSpans("strict cells are some of those of marking, ascending")
        self._settings = settings
        self._marking = list(marking)
        self._strict = list(strict)
        self._versions = {}
        # The adds and drops that are not undone, as tuples (name, version, whether it was added).
        self._calls = []
        # For each mark, how many calls there were before it.
        self._marks = []

    def __len__(self):
        return len(self._versions)

    @property
    def stored(self):
        """How many cells all different pieces have together."""
        return count_pieces(different_pieces(list(self._versions.values())))

    def add(self, name, spans):
        """A new version; the tuple (pieces, cells) of what is new in the store."""
        if not is_name(name) or name in self._versions:
            raise InvalidName("not a new name of 1 to 8 letters")
        if not are_spans(spans, most_cells(self._settings)):
            raise InvalidSpans("spans are tuples of two cells, with not too many cells in all")
        version = self._made(spans)
        fresh = pieces_beside([version], list(self._versions.values()))
        self._versions[name] = version
        self._calls.append((name, version, True))
        return len(fresh), count_pieces(fresh)

    def drop(self, name):
        """A version goes; how many cells are not stored any more."""
        self._check_name(name)
        version = self._versions[name]
        del self._versions[name]
        self._calls.append((name, version, False))
        return count_pieces(pieces_beside([version], list(self._versions.values())))

    def cuts_of(self, name):
        """The list of the cuts of a version."""
        self._check_name(name)
        return list(self._versions[name].cuts)

    def pieces_of(self, name):
        """The list of the span lists of the pieces of a version, in order."""
        self._check_name(name)
        return [list(piece) for piece in self._versions[name].pieces]

    def alone(self, names):
        """How many cells the pieces have together that only these versions have."""
        if not isinstance(names, list):
            raise InvalidName("names are a list")
        for name in names:
            self._check_name(name)
        if len(set(names)) < len(names):
            raise InvalidName("names are different ones")
        chosen = [self._versions[name] for name in names]
        others = [self._versions[name] for name in self._versions if name not in names]
        return count_pieces(pieces_beside(chosen, others))

    def shared(self, name, other):
        """How many different pieces two versions both have."""
        self._check_name(name)
        self._check_name(other)
        version = self._versions[name]
        only = pieces_beside([version], [self._versions[other]])
        return len(different_pieces([version])) - len(only)

    def undo(self):
        """The last add or drop that is not undone is undone."""
        if len(self._calls) == 0:
            raise NothingToUndo("no add or drop is left")
        self._undo_last()
        many = len(self._calls)
        self._marks = [number for number in self._marks if number <= many]

    def mark(self):
        """A new mark; its number."""
        self._marks.append(len(self._calls))
        return len(self._marks) - 1

    def undo_to(self, index):
        """The calls behind a mark are undone; the mark stays, later ones go."""
        if not is_integer(index) or not 0 <= index < len(self._marks):
            raise InvalidNumber("no such mark")
        while len(self._calls) > self._marks[index]:
            self._undo_last()
        self._marks = self._marks[:index + 1]

    def twin(self):
        """An independent copy."""
        other = Store(self._settings, self._marking, self._strict)
        other._versions = dict(self._versions)
        other._calls = list(self._calls)
        other._marks = list(self._marks)
        return other

    def _check_name(self, name):
        """InvalidName unless any object is the name of a version."""
        if not isinstance(name, str) or name not in self._versions:
            raise InvalidName("no version has this name")

    def _made(self, spans):
        """The version with this content."""
        line = content_line(spans, self._marking, self._strict)
        cuts = cuts_from(line, self._settings, 0)
        return Version(cuts, [cells_between(spans, begin, end) for begin, end in zip(cuts, cuts[1:])])

    def _undo_last(self):
        """The last call that is not undone is undone; marks stay."""
        name, version, is_added = self._calls.pop()
        if is_added:
            del self._versions[name]
        else:
            self._versions[name] = version


def is_name(thing):
    """Whether any object may be the name of a version."""
    if not isinstance(thing, str) or not 1 <= len(thing) <= 8:
        return False
    return all([sign in LETTERS for sign in thing])


def different_pieces(versions):
    """A dict with the different pieces of versions as its keys."""
    found = {}
    for version in versions:
        for piece in version.pieces:
            found[piece] = True
    return found


def pieces_beside(versions, others):
    """A dict with the different pieces that these versions have and the other ones have not."""
    known = different_pieces(others)
    return {piece: True for piece in different_pieces(versions) if piece not in known}


def count_pieces(pieces):
    """How many cells some pieces have together."""
    return sum([count_cells(piece) for piece in pieces])
