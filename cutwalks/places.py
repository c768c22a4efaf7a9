"""Ranges: ascending lists of tuples (low, high) that stand for the places from low to high."""


def joined_ranges(pairs):
    """The ranges of all places of some pairs (low, high), whose lows do not fall; they may touch or overlap."""
    found = []
    for low, high in pairs:
        if len(found) > 0 and low <= found[-1][1] + 1:
            begin, end = found.pop()
            found.append((begin, max(end, high)))
        else:
            found.append((low, high))
    return found


def count_places(ranges):
    """How many places the ranges stand for."""
    return sum([high - low + 1 for low, high in ranges])


def counts_within(ranges, pairs):
    """How many places of the ranges lie from low to high, for each of some pairs (low, high) that come in order."""
    found = []
    at = 0
    for low, high in pairs:
        while at < len(ranges) and ranges[at][1] < low:
            at += 1
        many = 0
        number = at
        while number < len(ranges) and ranges[number][0] <= high:
            many += min(ranges[number][1], high) - max(ranges[number][0], low) + 1
            number += 1
        found.append(many)
    return found


def least_outside(ranges, others):
    """The least place of the ranges that is not one of the others, None if there is none."""
    for low, high in ranges:
        place = low
        for begin, end in others:
            if begin <= place <= end:
                place = end + 1
        if place <= high:
            return place
    return None


def last_up_to(ranges, place):
    """The greatest place of the ranges that is not above place, which is not below all of them."""
    lows = [(low, high) for low, high in ranges if low <= place]
    return min(lows[-1][1], place)


def first_above(ranges, place, otherwise):
    """The least place of the ranges above place, or the other number if there is none."""
    for low, high in ranges:
        if high > place:
            return max(low, place + 1)
    return otherwise


def is_within(ranges, place):
    """Whether the place is one of the ranges."""
    return any([low <= place <= high for low, high in ranges])


def common_places(ranges, others):
    """The ranges of the places that two ranges both stand for."""
    found = []
    for low, high in ranges:
        for begin, end in others:
            if max(low, begin) <= min(high, end):
                found.append((max(low, begin), min(high, end)))
    return found


def moved_ranges(ranges, number):
    """The ranges of the places, each greater by number."""
    return [(low + number, high + number) for low, high in ranges]
