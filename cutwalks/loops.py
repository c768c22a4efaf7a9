"""Loops: rows without ends that repeat, and the rings that walks in them come into."""

from math import gcd

from cutwalks.checks import MOST_MARKS, MOST_PERIOD, are_ascending, are_some_of, check_any_place, check_loop_settings
from cutwalks.checks import check_number, is_integer
from cutwalks.errors import InvalidLoop, InvalidNumber
from cutwalks.walks import count_before


class Loop:
    """A row without ends that repeats; it never changes, its methods return new loops."""

    def __init__(self, period, marks, strict):
        if not is_integer(period) or not 1 <= period <= MOST_PERIOD:
            raise InvalidLoop("the period of a loop is an integer from 1 to 2000")
        if not are_ascending(marks, 0, period - 1) or len(marks) > MOST_MARKS:
            raise InvalidLoop("marks are at most 400 residues, ascending")
        if not are_some_of(strict, marks):
            raise InvalidLoop("strict marks are some of the marks, ascending")
        self._period = period
        self._marks = list(marks)
        self._strict = list(strict)

    @property
    def period(self):
        """The number of cells after which the loop repeats."""
        return self._period

    @property
    def marks(self):
        """A new list of the residues of all marks."""
        return list(self._marks)

    @property
    def strict(self):
        """A new list of the residues of the strict marks."""
        return list(self._strict)

    def __eq__(self, other):
        if not isinstance(other, Loop):
            return False
        if self._period != other._period:
            return False
        return self._marks == other._marks and self._strict == other._strict

    def moved(self, number):
        """The loop with each mark moved by number."""
        if not is_integer(number):
            raise InvalidNumber("marks are moved by an integer")
        return Loop(self._period, self._moved(self._marks, number), self._moved(self._strict, number))

    def repeated(self, times):
        """The same loop with times as long a period."""
        check_number(times, 1)
        if times * self._period > MOST_PERIOD:
            raise InvalidLoop("the period would be too long")
        return Loop(times * self._period, self._repeated(self._marks, times), self._repeated(self._strict, times))

    def _moved(self, marks, number):
        """The residues of the marks, moved by number."""
        return sorted([(mark + number) % self._period for mark in marks])

    def _repeated(self, marks, times):
        """The marks of several rounds."""
        return [number * self._period + mark for number in range(times) for mark in marks]


def loop_step(loop, settings, place):
    """The next cut of any place."""
    check_loop_settings(settings)
    check_any_place(place)
    return next_in_loop(loop, settings, place)


def ring_of(loop, settings, place):
    """The residues, ascending, of the ring that the walk from place comes into."""
    check_loop_settings(settings)
    check_any_place(place)
    lengths = piece_lengths(loop, settings)
    residue = place % loop.period
    # Each residue before the ring comes once only.
    for _ in range(loop.period):
        residue = (residue + lengths[residue]) % loop.period
    return ring_from(lengths, residue)


def rings(loop, settings):
    """All rings, as an ascending list of ascending lists of residues."""
    check_loop_settings(settings)
    return all_rings(piece_lengths(loop, settings))


def turning(loop, settings):
    """The tuple (q, r): all rings have q cuts in r rounds."""
    check_loop_settings(settings)
    return turning_of(piece_lengths(loop, settings))


def mean(loop, settings):
    """The mean length of pieces, as a tuple (top, bottom) without a common divisor."""
    check_loop_settings(settings)
    cuts, rounds = turning_of(piece_lengths(loop, settings))
    both = gcd(rounds * loop.period, cuts)
    return rounds * loop.period // both, cuts // both


def never_meet(loop, settings):
    """How many walks from suitable starts never meet one another."""
    check_loop_settings(settings)
    lengths = piece_lengths(loop, settings)
    _, rounds = turning_of(lengths)
    return len(all_rings(lengths)) * rounds


def loop_meeting(loop, settings, first, second):
    """The first cut that the walks from two places both have, or None."""
    check_loop_settings(settings)
    check_any_place(first)
    check_any_place(second)
    lengths = piece_lengths(loop, settings)
    behind = brought_near(lengths, min(first, second), max(first, second))
    ahead = max(first, second)
    # After one round of cuts the walk that was behind is near, after two more both are in their rings. If they do
    # not meet in the next two, all is again as it was, a whole turn further on. The last round is for the ends.
    for _ in range(6 * loop.period):
        if behind == ahead:
            return behind
        after = behind + lengths[behind % loop.period]
        behind, ahead = min(after, ahead), max(after, ahead)
    return None


def next_in_loop(loop, settings, place):
    """The next cut, of valid arguments."""
    least, normal, greatest = settings
    last = place + greatest
    strict = mark_from(loop.strict, loop.period, place + least, last)
    # From normal on marks of both kinds serve, so there the kind of a mark is not asked.
    either = mark_from(loop.marks, loop.period, place + normal, last)
    return min(strict, either, last)


def mark_from(marks, period, place, otherwise):
    """The first place of the marks of all rounds that is not before place, or the other number if there are none."""
    if len(marks) == 0:
        return otherwise
    residue = place % period
    at = count_before(marks, residue)
    if at < len(marks):
        return place - residue + marks[at]
    return place - residue + period + marks[0]


def piece_lengths(loop, settings):
    """How far each residue's next cut is from it."""
    return [next_in_loop(loop, settings, residue) - residue for residue in range(loop.period)]


def ring_from(lengths, residue):
    """The ring, ascending, of one of its residues."""
    found = [residue]
    after = (residue + lengths[residue]) % len(lengths)
    while after != residue:
        found.append(after)
        after = (after + lengths[after]) % len(lengths)
    return sorted(found)


def all_rings(lengths):
    """All rings, ascending."""
    found = []
    come_from = [None for _ in lengths]
    for start in range(len(lengths)):
        residue = start
        while come_from[residue] is None:
            come_from[residue] = start
            residue = (residue + lengths[residue]) % len(lengths)
        # What this walk comes to again, and not what an earlier one has come to, is a ring that was not yet found.
        if come_from[residue] == start:
            found.append(ring_from(lengths, residue))
    return sorted(found)


def turning_of(lengths):
    """How many cuts, in how many rounds, each ring has."""
    ring = all_rings(lengths)[0]
    return len(ring), sum([lengths[residue] for residue in ring]) // len(lengths)


def brought_near(lengths, behind, ahead):
    """A cut of the walk from behind, not after ahead; whole turns of its ring before ahead are left out."""
    for _ in lengths:
        after = behind + lengths[behind % len(lengths)]
        if after > ahead:
            return behind
        behind = after
    _, rounds = turning_of(lengths)
    turn = rounds * len(lengths)
    return behind + (ahead - behind) // turn * turn
