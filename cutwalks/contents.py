"""Contents: cells of a store in order, as spans, and what they are to walks."""

from cutwalks.checks import MOST_PIECES, is_integer
from cutwalks.lines import Line
from cutwalks.walks import count_before

MOST_SPANS = 200


def are_spans(thing, limit):
    """Whether any object is a list of spans with at most this many cells."""
    if not isinstance(thing, list) or not 1 <= len(thing) <= MOST_SPANS:
        return False
    return all([is_span(span) for span in thing]) and count_cells(thing) <= limit


def is_span(thing):
    """Whether any object is a tuple of two cells that do not go down."""
    if not isinstance(thing, tuple) or len(thing) != 2:
        return False
    first, last = thing
    return is_integer(first) and is_integer(last) and 0 <= first <= last


def most_cells(settings):
    """How many cells a version may have."""
    return MOST_PIECES * settings[0]


def count_cells(spans):
    """How many cells the spans have together."""
    return sum([last - first + 1 for first, last in spans])


def content_line(spans, marking, strict):
    """The row of a content, with any number of marks."""
    length = count_cells(spans)
    return Line(length, marks_in(spans, marking, length), marks_in(spans, strict, length))


def marks_in(spans, cells, length):
    """The places behind these cells, wherever the content has them; the end is none."""
    found = []
    passed = 0
    for first, last in spans:
        within = cells[count_before(cells, first):count_before(cells, last + 1)]
        found.extend([passed + cell - first + 1 for cell in within])
        passed += last - first + 1
    return [place for place in found if place < length]


def cells_between(spans, begin, end):
    """The span list of the cells between two places of a content, as a tuple."""
    found = []
    passed = 0
    for first, last in spans:
        low = max(first, first + begin - passed)
        high = min(last, first + end - passed - 1)
        if low <= high:
            if len(found) > 0 and found[-1][1] + 1 == low:
                low = found.pop()[0]
            found.append((low, high))
        passed += last - first + 1
    return tuple(found)
