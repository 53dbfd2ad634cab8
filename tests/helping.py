"""What several tests lean on: a line counter, fields to ask of, and whole points found by walking through windows."""

import copy
import itertools
import sys
import unittest

from stakefield.desk import Desk
from stakefield.errors import StakeError
from stakefield.fields import field, where
from stakefield.texts import show_points

FAR = 10 ** 30
FORTY = 10 ** 39 + 3
SIXTY = 123456789012345678901234567890123456789012345678901234567891
STAY = (1, 0, 0, 1, 0, 0)
MOVES = (
    STAY, (1, 0, 0, 1, -7, 9), (0, 1, 1, 0, 0, 0), (-1, 0, 0, 1, 0, 0), (1, 0, 0, -1, 3, 0), (0, -1, 1, 0, 2, 2),
    (-1, 0, 0, -1, 0, 0), (2, 3, 1, 1, 9, 8), (2, 1, 1, 1, 0, -4), (1, FAR, 0, 1, FAR, 1),
)
FAR_MOVES = (
    (1, FAR, 0, 1, FAR, 1), (FAR + 1, FAR, 1, 1, -FAR, FAR), (FAR, FAR + 1, 1, 1, FAR, 3), (1, 0, -FAR, 1, 0, 7),
    (FAR + 1, FAR, FAR + 2, FAR + 1, 5, -FAR * FAR), (0, 1, 1, 0, 10 ** 90, -10 ** 90),
)
TWENTY = 10 ** 19 + 7
# Moves that leave (0, 0) where it is, with numbers of twenty figures and about.
SLANTS = (
    (1, TWENTY, 0, 1, 0, 0), (1, 0, -TWENTY, 1, 0, 0), (TWENTY, TWENTY + 1, 1, 1, 0, 0), (TWENTY + 1, TWENTY, 1, 1, 0, 0),
    (0, -1, 1, TWENTY, 0, 0), (TWENTY + 1, TWENTY, TWENTY + 2, TWENTY + 1, 0, 0),
)
SQUARE = [(0, 0), (4, 0), (4, 4), (0, 4)]
CORNER = [(0, 0), (1, 0), (0, 1)]
SLOPE = [(0, 0), (3, 0), (0, 2)]
HEXAGON = [(-1, -1), (0, -1), (1, 0), (1, 1), (0, 1), (-1, 0)]
FIELDS = (
    [(0, 0)], [(-3, 5)], [(0, 0), (1, 0)], [(2, -1), (2, 8)], [(-1, 0), (5, 9)], [(0, 4), (6, 0)],
    [(0, 0), (1, 0), (0, 1)], [(0, 0), (3, 0), (0, 6)], [(-2, -1), (5, -3), (1, 4)], SQUARE,
    [(-1, 0), (0, -1), (1, 0), (0, 1)], [(0, 0), (2, -1), (5, 0), (6, 3), (4, 6), (1, 5)],
)
# One field in which (0, 0) alone lies for each of the sixteen forms that there are of such.
HEARTS = (
    [(-1, -1), (1, 0), (0, 1)], [(-1, -1), (1, -1), (0, 1)], [(-2, -1), (0, -1), (1, 2)], [(-2, -1), (2, -1), (0, 1)],
    [(-2, -1), (1, -1), (1, 2)], [(-1, -1), (0, -1), (1, 0), (0, 1)], [(-1, -1), (0, -1), (1, 1), (0, 1)],
    [(-1, -1), (0, -1), (1, 0), (-1, 1)], [(-1, -1), (0, -1), (1, 1), (-1, 1)], [(-2, -1), (-1, -1), (1, 0), (1, 2)],
    [(-2, -1), (0, -1), (1, 0), (1, 2)], [(-1, -1), (1, -1), (1, 1), (-1, 1)], [(-1, -1), (0, -1), (1, 0), (0, 1), (-1, 0)],
    [(-1, -1), (0, -1), (1, 0), (0, 1), (-1, 1)], [(-1, -1), (0, -1), (1, 0), (1, 1), (-1, 1)], HEXAGON,
)
HUNDRED = (
    [(0, 0), (99, 0)], [(-5, 40), (-5, 139)], [(0, 0), (9, 0), (9, 9), (0, 9)], [(0, 0), (49, 0), (49, 1), (0, 1)],
    [(0, 0), (98, 0), (0, 1)], [(0, 0), (1, 0), (197, 195)],
)
ONE_MORE = (
    [(0, 0), (100, 0)], [(-5, 40), (-5, 140)], [(0, 0), (9, 0), (10, 1), (9, 9), (0, 9)], [(0, 0), (50, 0), (49, 1), (0, 1)],
    [(0, 0), (99, 0), (0, 1)], [(0, 0), (1, 0), (196, 197)],
)
VERY_GREAT = (
    [(0, 0), (FAR, 0)], [(-FAR, -FAR), (FAR, FAR)], [(0, 0), (FAR, 0), (0, 1)], [(0, 0), (FAR, 0), (FAR, FAR), (0, FAR)],
    [(0, 0), (1, 0), (FAR, FAR + 1)], [(-FAR, 0), (0, -1), (FAR, 0), (0, 1)], [(0, 0), (10 ** 199, 1), (1, 10 ** 199)],
)


class TooLong(AssertionError):
    pass


def within(most, deed, *given):
    """What deed(*given) answers; TooLong once more than `most` lines were run for it.

    So a call that goes with distance fails where it would else hang.
    """
    run = 0

    def count(frame, event, arg):
        nonlocal run
        if event == "line":
            run += 1
            if run > most:
                raise TooLong(f"{deed.__name__} ran more than {most} lines")
        return count

    before = sys.gettrace()
    sys.settrace(count)
    try:
        return deed(*given)
    finally:
        sys.settrace(before)


class StakeCase(unittest.TestCase):
    def assert_refused(self, own, deed, *given):
        """Refused with the class `own` itself, which stands straight under StakeError."""
        with self.assertRaises(ValueError) as caught:
            deed(*given)
        self.assertIs(type(caught.exception), own)
        self.assertEqual((own.__bases__, StakeError.__bases__), ((StakeError,), (ValueError,)))

    def assert_new_list(self, deed, *given):
        """[2]: the same asked again is the same, in a list of the asker's own; nothing handed in is changed."""
        kept = copy.deepcopy(given)
        told = deed(*given)
        again = deed(*given)
        self.assertIs(type(told), list)
        self.assertEqual(told, again)
        self.assertFalse(any(told is thing for thing in (again,) + given))
        told.append("more")
        self.assertEqual((deed(*given), given), (again, kept))


def golden():
    """Two neighbours of two hundred figures of the row in which dividing takes the most steps."""
    low, high = 1, 1
    while high < 10 ** 199:
        low, high = high, low + high
    return low, high


def window(land):
    """All whole points, in order, from the least to the greatest x and y of the field's corners."""
    xs = [P[0] for P in land]
    ys = [P[1] for P in land]
    return list(itertools.product(range(min(xs), max(xs) + 1), range(min(ys), max(ys) + 1)))


def walked(land, least=0):
    """The whole points, in order, of which where (11) tells `least` or more."""
    return [P for P in window(land) if where(land, P) >= least]


def bowl(many):
    """A field of `many` corners, from three on."""
    return [(x, x * x) for x in range(many)]


def some_fields(many, reach, most=8):
    """`many` fields, always the same ones, of up to `most` points up to `reach` from (0, 0) each way."""
    state = 20 * reach + most
    told = []
    for k in range(many):
        points = []
        for i in range(k % most + 1):
            state = state * 48271 % (2 ** 31 - 1)
            points.append((state // 5 % (2 * reach + 1) - reach, state // 7919 % (2 * reach + 1) - reach))
        told.append(field(points))
    return told


def desk_with(*fields):
    """A desk at which the fields stand by the names a, b, c and so on."""
    desk = Desk()
    for name, land in zip("abcde", fields):
        desk.say(f"field {name} {show_points(land)}")
    return desk
