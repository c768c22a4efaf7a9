"""Tests of arguments that may be any object, and the errors they lead to."""

from cutwalks.errors import InvalidNumber, InvalidPlace, InvalidRanges, InvalidSettings, TooLarge

MOST_MARKS = 400
MOST_PIECES = 200
MOST_PERIOD = 2000


def is_integer(thing):
    """Whether any object is an integer; Python counts booleans as such, the document does not."""
    return isinstance(thing, int) and not isinstance(thing, bool)


def are_places(thing, low, high):
    """Whether any object is a list of integers from low to high, in any order."""
    if not isinstance(thing, list):
        return False
    return all([is_integer(place) and low <= place <= high for place in thing])


def are_ascending(thing, low, high):
    """Whether any object is an ascending list of integers from low to high."""
    if not are_places(thing, low, high):
        return False
    return all([before < place for before, place in zip(thing, thing[1:])])


def are_cells(thing):
    """Whether any object is an ascending list of integers from 0 on."""
    if not isinstance(thing, list) or not all([is_integer(cell) for cell in thing]):
        return False
    return are_ascending(thing, 0, max(thing, default=0))


def are_marks(thing, high):
    """Whether any object may be the list of the marks where high is the last place for one."""
    return are_ascending(thing, 1, high) and len(thing) <= MOST_MARKS


def are_some_of(thing, marks):
    """Whether any object is an ascending list of some of the marks."""
    if not are_ascending(thing, 0, max(marks, default=0)):
        return False
    return len(set(thing) - set(marks)) == 0


def is_change(thing, row_length):
    """Whether any object is a change of a row of this length."""
    if not isinstance(thing, tuple) or len(thing) != 5:
        return False
    begin, end, length, marks, strict = thing
    if not is_replacement(begin, end, length, row_length):
        return False
    # New cells that become the last ones of the row end where no mark may stand.
    high = length - 1 if end == row_length else length
    return are_marks(marks, high) and are_some_of(strict, marks)


def is_replacement(begin, end, length, row_length):
    """Whether length cells may stand in the place of those between begin and end."""
    if not all([is_integer(number) for number in (begin, end, length)]):
        return False
    if not 0 <= begin <= end <= row_length or length < 0:
        return False
    return row_length - (end - begin) + length >= 1


def is_range(thing, low, high):
    """Whether any object is a range of places from low to high."""
    if not isinstance(thing, tuple) or len(thing) != 2:
        return False
    begin, end = thing
    return is_integer(begin) and is_integer(end) and low <= begin <= end <= high


def check_ranges(ranges, row_length):
    """InvalidRanges unless any object is one range or more of places of a row of this length."""
    if not isinstance(ranges, list) or len(ranges) == 0:
        raise InvalidRanges("ranges are a list of one range or more")
    low = 0
    for thing in ranges:
        if not is_range(thing, low, row_length):
            raise InvalidRanges("a range is two places that go up, at least 2 above the range before")
        low = thing[1] + 2


def check_settings(settings):
    """InvalidSettings unless any object is settings."""
    if not isinstance(settings, tuple) or len(settings) != 3:
        raise InvalidSettings("settings are a tuple of three integers")
    if not all([is_integer(number) for number in settings]):
        raise InvalidSettings("settings are three integers")
    least, normal, greatest = settings
    if not 1 <= least <= normal <= greatest:
        raise InvalidSettings("settings go up from 1")


def check_loop_settings(settings):
    """InvalidSettings unless any object is settings of loops."""
    check_settings(settings)
    if settings[2] > MOST_PERIOD:
        raise InvalidSettings("the greatest length is too great for loops")


def check_number(number, low):
    """InvalidNumber unless the number is an integer from low on."""
    if not is_integer(number) or number < low:
        raise InvalidNumber(f"not a number from {low} on")


def check_place(place, low, high):
    """InvalidPlace unless the place is one from low to high."""
    if not is_integer(place) or not low <= place <= high:
        raise InvalidPlace(f"not a place from {low} to {high}")


def check_place_from(place, low):
    """InvalidPlace unless the place is an integer from low on."""
    if not is_integer(place) or place < low:
        raise InvalidPlace(f"not a place from {low} on")


def check_any_place(place):
    """InvalidPlace unless the place is an integer."""
    if not is_integer(place):
        raise InvalidPlace("a place is an integer")


def check_size(row, settings):
    """TooLarge if walks through the row could have more pieces than walks may have."""
    check_length(row.length, settings)


def check_length(length, settings):
    """TooLarge if walks through rows of this length could have more pieces than walks may have."""
    if length > MOST_PIECES * settings[0]:
        raise TooLarge("the row is too long for these settings")
