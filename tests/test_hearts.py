"""Hearts and their facing fields: point [34], and what points [2] and [3] say of them."""

import copy
import itertools
import unittest
from fractions import Fraction

from helping import CORNER, FAR, FAR_MOVES, FIELDS, HEARTS, HEXAGON, MOVES, SIXTY, SLANTS, SQUARE, VERY_GREAT
from helping import StakeCase, bowl, golden, some_fields, walked, within
from stakefield.errors import NoHeart
from stakefield.fields import field, field_moved, is_field, rim, sides
from stakefield.forms import alike, form
from stakefield.hearts import facing, is_heart

NONE = (
    # (0, 0) outside.
    [(1, 0), (3, 0), (2, 3)], [(-1, 3), (1, 2), (0, 5)], SQUARE[:1], [(2, 1), (4, 1), (3, 3)], [(1, 1), (3, 1), (3, 3), (1, 3)],
    # (0, 0) on the rim, alone, beside one point within and beside several.
    [(-1, 0), (1, 0), (0, 1)], [(-1, 0), (1, 0), (0, 2)], [(-2, 0), (2, 0), (1, 3)], [(-1, -1), (1, 1), (-1, 1)],
    # (0, 0) a corner, alone, beside one point within and beside several.
    CORNER, SQUARE, [(0, 0), (3, 0), (0, 3)], [(0, 0), (2, 1), (1, 2)],
    # (0, 0) in the field, beside one other whole point and beside many.
    [(-1, -1), (2, 0), (0, 2)], [(-1, 0), (0, -1), (2, 0), (0, 1)], [(-1, -1), (3, -1), (-1, 3)],
    [(-9, -9), (9, -9), (9, 9), (-9, 9)], [(-1, -1), (2, -1), (2, 1), (-1, 1)],
    # One corner and two, also with (0, 0) between or at an end.
    [(0, 0)], [(5, -7)], [(-1, 0), (1, 0)], [(0, 0), (1, 0)], [(-1, -1), (1, 1)], [(-4, 2), (6, -3)], [(1, 5), (1, 9)],
)

SMALL = list(itertools.product(range(-1, 3), range(-2, 2)))


def small_fields():
    """All fields of one to four points of a small window, and some of more."""
    fields = {tuple(field(list(some))) for many in range(1, 5) for some in itertools.combinations(SMALL, many)}
    return [list(land) for land in sorted(fields)] + some_fields(60, 2, 6) + some_fields(60, 3)


def is_heart_walked(land):
    return walked(land, 1) == [(0, 0)]


def faced_walked(land):
    """The corners of the shape of all (a, b) with a x + b y at most 1 at each corner, whole or not, in any order.

    A corner is where two of these are 1 and none is more.
    """
    found = set()
    for (x, y), (z, w) in itertools.combinations(land, 2):
        area = x * w - y * z
        if area != 0:
            a, b = Fraction(w - y, area), Fraction(x - z, area)
            if max(a * P[0] + b * P[1] for P in land) == 1:
                found.add((a, b))
    return found


class HeartTest(StakeCase):
    def test_all_forms_of_hearts(self):
        self.assertEqual(len({tuple(form(land)) for land in HEARTS}), 16)
        self.assertEqual({len(land) for land in HEARTS}, {3, 4, 5, 6})
        for land in HEARTS:
            self.assertIs(is_field(land), True)
            self.assertIs(is_heart_walked(land), True)
            self.assertIs(is_heart(land), True)

    def test_what_is_none(self):
        for land in NONE:
            self.assertIs(is_field(land), True, land)
            self.assertIs(is_heart_walked(land), False, land)
            self.assertIs(is_heart(land), False, land)

    def test_against_walking(self):
        for land in small_fields() + list(FIELDS):
            self.assertIs(is_heart(land), is_heart_walked(land), land)

    def test_moved_off(self):
        for land, (x, y) in itertools.product(HEARTS, ((1, 0), (0, -1), (1, 1), (-7, 9), (FAR, 0), (-FAR, SIXTY))):
            self.assertIs(is_heart(field_moved(land, (1, 0, 0, 1, x, y))), False)

    def test_slanted(self):
        for land, move in itertools.product(HEARTS, SLANTS):
            self.assertIs(is_heart(field_moved(land, move)), True)
        for land, move in itertools.product(NONE, SLANTS):
            self.assertIs(is_heart(field_moved(land, move)), False)

    def test_far_apart(self):
        for land in VERY_GREAT + ([(-FAR, -FAR), (FAR, -FAR), (FAR, FAR), (-FAR, FAR)], bowl(60)):
            self.assertIs(is_heart(land), False)


class FacingTest(StakeCase):
    def test_written_out(self):
        for land, told in (
            ([(-1, -1), (1, 0), (0, 1)], [(-2, 1), (1, -2), (1, 1)]),
            ([(-1, -1), (2, -1), (-1, 2)], [(-1, 0), (0, -1), (1, 1)]),
            ([(-1, -1), (1, -1), (1, 1), (-1, 1)], [(-1, 0), (0, -1), (1, 0), (0, 1)]),
            ([(-2, -1), (2, -1), (0, 1)], [(-1, 1), (0, -1), (1, 1)]),
            ([(-1, -1), (0, -1), (1, 0), (0, 1), (-1, 0)], [(-1, 0), (0, -1), (1, -1), (1, 1), (-1, 1)]),
            (HEXAGON, [(-1, 0), (0, -1), (1, -1), (1, 0), (0, 1), (-1, 1)]),
        ):
            self.assertEqual(facing(land), told)
            self.assertEqual(facing(told), land)

    def check(self, land):
        told = facing(land)
        self.assertIs(type(told), list)
        self.assertIs(is_field(told), True)
        self.assertEqual({(type(P), type(P[0]), type(P[1])) for P in told}, {(tuple, int, int)})
        self.assertEqual(len(told), len(land))
        self.assertEqual(set(told), faced_walked(land), land)
        for A, B in sides(land):
            one = [(a, b) for a, b in told if a * A[0] + b * A[1] == 1 and a * B[0] + b * B[1] == 1]
            self.assertEqual(len(one), 1, (land, A, B))
        self.assertIs(is_heart(told), True)
        self.assertEqual(facing(told), land)
        self.assertEqual(rim(land) + rim(told), 12)

    def test_all_forms_of_hearts(self):
        for land, move in itertools.product(HEARTS, MOVES[:9]):
            self.check(field_moved(land, move[:4] + (0, 0)))

    def test_hearts_of_a_window(self):
        hearts = [land for land in small_fields() if is_heart_walked(land)]
        self.assertGreater(len(hearts), 40)
        for land in hearts:
            self.check(land)

    def test_the_forms_face_one_another(self):
        forms = sorted(form(land) for land in HEARTS)
        self.assertEqual(sorted(form(facing(land)) for land in HEARTS), forms)

    def test_slanted(self):
        for land, move in itertools.product(HEARTS, SLANTS):
            there = field_moved(land, move)
            self.check(there)
            self.assertIsNotNone(alike(facing(there), facing(land)))

    def test_refused(self):
        for land in NONE + VERY_GREAT + (bowl(60),):
            self.assert_refused(NoHeart, facing, land)
        for land, move in itertools.product(HEARTS, FAR_MOVES):
            self.assert_refused(NoHeart, facing, field_moved(land, move))
        for land, move in itertools.product(NONE, SLANTS):
            self.assert_refused(NoHeart, facing, field_moved(land, move))


class KeepingTest(StakeCase):
    """[2]"""

    def test_lists_told_are_new_ones(self):
        for land in HEARTS:
            self.assert_new_list(facing, list(land))

    def test_nothing_handed_in_is_changed(self):
        for land in HEARTS + NONE:
            points = copy.deepcopy(land)
            self.assertIs(is_heart(points), is_heart(points))
            self.assertEqual(points, land)

    def test_steps_go_with_the_figures(self):
        low, high = golden()
        far = (high, low, low, high - low, 0, 0)
        for land in HEARTS:
            there = field_moved(land, far)
            self.assertIs(within(60000, is_heart, there), True)
            self.assertEqual(facing(within(120000, facing, there)), there)
        for land in VERY_GREAT:
            self.assertIs(within(60000, is_heart, land), False)


if __name__ == "__main__":
    unittest.main()
