"""Knowledge: what some known pieces of walks tell of the marks and the walks of a row."""

from cutwalks.checks import check_length, check_number, check_place, check_settings, is_range
from cutwalks.errors import Clash, InvalidPieces
from cutwalks.known import Known, kinds_left
from cutwalks.places import is_within, joined_ranges, last_up_to
from cutwalks.walks import cuts_from

MOST_KNOWN = 100


def kinds_at(length, settings, pieces, place):
    """The list of what a place within the row is in some row that fits."""
    check_known(length, settings, pieces)
    check_place(place, 1, length - 1)
    return known_of(length, settings, pieces).kinds(place)


def steps_from(length, settings, pieces, place):
    """The ranges of the next cuts that a place before the end has in rows that fit."""
    check_known(length, settings, pieces)
    check_place(place, 0, length - 1)
    return joined_ranges(known_of(length, settings, pieces).steps(place, place))


def possible_cuts(length, settings, pieces, start):
    """The ranges of the places that are a cut of the walk from start in some row that fits."""
    check_known(length, settings, pieces)
    check_place(start, 0, length)
    return known_of(length, settings, pieces).possible(start)


def sure_cuts(length, settings, pieces, start):
    """The list, ascending, of the places that are a cut of the walk from start in every row that fits."""
    check_known(length, settings, pieces)
    check_place(start, 0, length)
    known = known_of(length, settings, pieces)
    ranges = known.possible(start)
    # What every row has, this one has, too.
    cuts = cuts_from(known.row_with([]), settings, start)
    return [cut for cut in cuts if cut == start or known.farthest(last_up_to(ranges, cut - 1)) <= cut]


def row_through(length, settings, pieces, start, place):
    """A row that fits and whose walk from start has the place as a cut, or None."""
    check_known(length, settings, pieces)
    check_place(start, 0, length)
    check_place(place, 0, length)
    known = known_of(length, settings, pieces)
    ranges = known.possible(start)
    if not is_within(ranges, place):
        return None
    return known.row_with(known.path(ranges, start, place))


def row_around(length, settings, pieces, start, place):
    """A row that fits and whose walk from start has the place not as a cut, or None."""
    check_known(length, settings, pieces)
    check_place(start, 0, length)
    check_place(place, 0, length)
    known = known_of(length, settings, pieces)
    ranges = known.possible(start)
    if not is_within(ranges, place):
        return known.row_with([])
    if place == start:
        return None
    # As next cuts do not fall, the last possible cut before the place is the one that can be left the farthest.
    before = last_up_to(ranges, place - 1)
    after = known.farthest(before)
    if after <= place:
        return None
    return known.row_with(known.path(ranges, start, before) + [(before, after)])


def check_known(length, settings, pieces):
    """The errors of a length, settings and pieces, each one alone."""
    check_number(length, 1)
    check_settings(settings)
    if not isinstance(pieces, list) or len(pieces) > MOST_KNOWN:
        raise InvalidPieces("pieces are a list of at most 100 tuples")
    if not all([is_piece(piece, length, settings) for piece in pieces]):
        raise InvalidPieces("a piece is two places that go up, neither too near nor too far from one another")


def is_piece(thing, length, settings):
    """Whether any object is a piece of a row of this length."""
    if not is_range(thing, 0, length):
        return False
    begin, end = thing
    if not 1 <= end - begin <= settings[2]:
        return False
    return end == length or end - begin >= settings[0]


def known_of(length, settings, pieces):
    """What valid pieces tell; TooLarge for a length that is too great, Clash if the pieces do not fit."""
    check_length(length, settings)
    for at, first in enumerate(pieces):
        for number in range(at + 1, len(pieces)):
            if not is_fitting(length, settings, first, pieces[number]):
                raise Clash((at, number))
    return Known(length, settings, list(pieces))


def is_fitting(length, settings, first, second):
    """Whether some row has both pieces."""
    # Between the ends of pieces every place may be no mark. Pieces that fit in pairs fit all: what takes plain from a
    # place takes strict, too, and so leaves nothing of a mark that another piece has there.
    places = [end for _, end in (first, second) if end < length]
    return all([len(kinds_left(length, settings, [first, second], place)) > 0 for place in places])
