"""Columns and shares: points [19] and [20], and what point [2] says of them."""

import itertools
import unittest

from helping import FAR, FAR_MOVES, FIELDS, FORTY, MOVES, SQUARE, StakeCase, golden, some_fields, walked, within
from stakefield.columns import columns, share
from stakefield.counts import count
from stakefield.fields import field_moved
from stakefield.moves import way_back

SOME = list(FIELDS) + some_fields(32, 4)
WIDE = [(-FORTY, 0), (0, -FORTY), (FORTY, 0), (0, FORTY)]


class ColumnsTest(StakeCase):
    """[19]"""

    def test_written_out(self):
        land = [(0, 0), (4, 0), (0, 4)]
        for left, right, told in (
            (0, 4, 15), (0, 0, 5), (1, 1, 4), (4, 4, 1), (1, 3, 9), (-9, 9, 15), (-1, 0, 5), (3, 99, 3),
            (1, 0, 0), (4, 0, 0), (9, -9, 0), (5, 5, 0), (-1, -1, 0), (5, 9, 0), (-9, -1, 0),
        ):
            self.assertEqual(columns(land, left, right), told, (left, right))
        steep = [(0, 0), (3, 1), (1, 5)]
        self.assertEqual([columns(steep, x, x) for x in range(-1, 5)], [0, 1, 5, 3, 1, 0])

    def test_one_corner(self):
        land = [(3, -5)]
        for left, right, told in ((3, 3, 1), (0, 9, 1), (-FAR, FAR, 1), (3, 9, 1), (0, 3, 1), (4, 9, 0), (0, 2, 0), (9, 0, 0)):
            self.assertEqual(columns(land, left, right), told, (left, right))

    def test_two_corners(self):
        slanted = [(0, 4), (6, 0)]
        for left, right, told in ((0, 6, 3), (0, 5, 2), (1, 5, 1), (1, 2, 0), (3, 3, 1), (6, 6, 1), (-9, 9, 3), (7, 9, 0), (3, 2, 0)):
            self.assertEqual(columns(slanted, left, right), told, (left, right))
        upright = [(2, -1), (2, 8)]
        for left, right, told in ((2, 2, 10), (0, 2, 10), (2, 9, 10), (1, 1, 0), (3, 3, 0), (3, 1, 0), (-FAR, FAR, 10)):
            self.assertEqual(columns(upright, left, right), told, (left, right))
        lying = [(-2, 7), (5, 7)]
        for left, right, told in ((-2, 5, 8), (0, 3, 4), (-9, 0, 3), (5, 9, 1), (6, 9, 0), (1, 0, 0)):
            self.assertEqual(columns(lying, left, right), told, (left, right))

    def test_upright_sides_at_both_ends(self):
        self.assertEqual([columns(SQUARE, x, x) for x in range(-1, 6)], [0, 5, 5, 5, 5, 5, 0])
        self.assertEqual(columns(SQUARE, 0, 4), 25)
        self.assertEqual(columns(SQUARE, 4, 9), 5)
        self.assertEqual(columns(SQUARE, -9, 0), 5)

    def test_walking_through_windows(self):
        for land in SOME:
            points = walked(land)
            for left, right in itertools.product(range(-6, 8), repeat=2):
                wanted = sum(left <= x <= right for x, y in points)
                self.assertEqual(columns(land, left, right), wanted, (land, left, right))

    def test_greater_windows(self):
        for land in some_fields(16, 40):
            points = walked(land)
            for left, right in ((-40, 40), (-41, 3), (-7, 19), (4, 4), (20, 20), (land[0][0], land[0][0]), (30, 90)):
                wanted = sum(left <= x <= right for x, y in points)
                self.assertEqual(columns(land, left, right), wanted, (land, left, right))

    def test_all_columns_come_to_the_count(self):
        for land, move in itertools.product(SOME, MOVES + FAR_MOVES):
            there = field_moved(land, move)
            left, right = min(there)[0], max(there)[0]
            self.assertEqual(columns(there, left, right), count(land))
            self.assertEqual(columns(there, left - FAR, right + FAR), count(land))
            self.assertEqual((columns(there, left - 9, left - 1), columns(there, right + 1, right + 9)), (0, 0))
            middle = (left + right) // 2
            self.assertEqual(columns(there, left, middle) + columns(there, middle + 1, right), count(land))

    def test_forty_figures(self):
        half = FORTY // 2
        for left, right, told in (
            (-FORTY, FORTY, 2 * FORTY * FORTY + 2 * FORTY + 1), (0, 0, 2 * FORTY + 1), (-FORTY, -FORTY, 1), (FORTY, FORTY, 1),
            (-FORTY, -1, FORTY * FORTY), (1, FORTY, FORTY * FORTY), (-half, -half, 2 * (FORTY - half) + 1),
            (half, FORTY, (FORTY - half + 1) ** 2), (FORTY + 1, 9 * FORTY, 0), (-9 * FORTY, -FORTY - 1, 0), (5, -5, 0),
        ):
            self.assertEqual(within(1000, columns, WIDE, left, right), told, (left, right))
        # Below the line from (0, 0) to (FORTY, FORTY + 1) a column ends where one along the slope 1 would.
        thin = [(0, 0), (FORTY, 0), (FORTY, FORTY + 1)]
        self.assertEqual(within(1000, columns, thin, 1, FORTY - 1), (FORTY - 1) * (FORTY + 2) // 2)
        self.assertEqual(within(1000, columns, thin, FORTY, FORTY), FORTY + 2)

    def test_steps_go_with_the_figures(self):
        low, high = golden()
        land = [(0, 0), (high, low), (high - 1, high)]
        self.assertEqual(within(60000, columns, land, 0, high), count(land))
        first = within(60000, columns, land, 0, low)
        self.assertEqual(first + within(60000, columns, land, low + 1, high), count(land))


class ShareTest(StakeCase):
    """[20]"""

    def test_written_out(self):
        land = [(0, 0), (4, 0), (0, 4)]
        for a, b, c, told in (
            (1, 0, 0, 5), (1, 0, 1, 9), (1, 0, -1, 0), (0, 1, 0, 5), (0, 1, 4, 15), (-1, 0, -4, 1), (0, -1, -1, 10),
            (1, 1, 1, 3), (1, 1, 4, 15), (1, 1, 3, 10), (2, 2, 3, 3), (2, 2, 1, 1), (-2, -2, -7, 5), (1, -1, 0, 9),
            (1, -1, -4, 1), (1, -1, -5, 0), (3, 5, 11, 8), (6, 10, 23, 8), (6, 10, 21, 7),
        ):
            self.assertEqual(share(land, a, b, c), told, (a, b, c))

    def test_a_and_b_both_0(self):
        for land in SOME:
            for c in (0, 1, 5, FAR):
                self.assertEqual(share(land, 0, 0, c), count(land))
            for c in (-1, -5, -FAR):
                self.assertEqual(share(land, 0, 0, c), 0)

    def test_walking_through_windows(self):
        for land in SOME:
            points = walked(land)
            for a, b in itertools.product((-6, -4, -3, -1, 0, 1, 2, 4, 9), repeat=2):
                for c in (-40, -13, -6, -2, -1, 0, 1, 2, 4, 5, 12, 31):
                    wanted = sum(a * x + b * y <= c for x, y in points)
                    self.assertEqual(share(land, a, b, c), wanted, (land, a, b, c))

    def test_greater_windows(self):
        for land in some_fields(16, 40):
            points = walked(land)
            for a, b, c in ((7, -12, 5), (-13, 5, -60), (100, 1, 250), (1, -100, 77), (21, 14, 45), (0, -3, 20), (-8, 0, 9)):
                wanted = sum(a * x + b * y <= c for x, y in points)
                self.assertEqual(share(land, a, b, c), wanted, (land, a, b, c))

    def test_both_sides_of_a_line_come_to_all(self):
        numbers = (-FORTY, -7, -1, 0, 2, 5, FORTY + 2)
        for land, a, b in itertools.product(list(FIELDS) + [WIDE], numbers, numbers):
            for c in (-FORTY * FORTY, -3, 0, 1, 8, FORTY):
                # What is not at most c is at least c + 1.
                self.assertEqual(share(land, a, b, c) + share(land, -a, -b, -c - 1), count(land), (land, a, b, c))

    def test_far_above_and_far_below(self):
        for land, a, b in itertools.product(SOME, (-5, 0, 3), (-4, 0, 6)):
            self.assertEqual(share(land, a, b, FAR), count(land))
            self.assertEqual(share(land, a, b, -FAR), 0)

    def test_just_at_the_ends(self):
        for land, a, b in itertools.product(SOME, (-5, 0, 3), (-4, 0, 6)):
            worths = sorted(a * x + b * y for x, y in walked(land))
            self.assertEqual(share(land, a, b, worths[-1]), count(land))
            self.assertEqual(share(land, a, b, worths[0] - 1), 0)
            self.assertEqual(share(land, a, b, worths[0]), worths.count(worths[0]))
            self.assertEqual(share(land, a, b, worths[-1] - 1), count(land) - worths.count(worths[-1]))

    def test_along_x_it_is_columns(self):
        for land, c in itertools.product(SOME, range(-6, 8)):
            self.assertEqual(share(land, 1, 0, c), columns(land, -9, c))
            self.assertEqual(share(land, -1, 0, -c), columns(land, c, 9))

    def test_moved(self):
        for land, move in itertools.product(FIELDS, FAR_MOVES):
            back = way_back(move)
            there = field_moved(land, move)
            for a, b, c in ((1, 0, 1), (0, 1, 2), (-3, 2, 1), (4, 6, 9)):
                far_a, far_b = a * back[0] + b * back[2], a * back[1] + b * back[3]
                far_c = c - a * back[4] - b * back[5]
                self.assertEqual(share(there, far_a, far_b, far_c), share(land, a, b, c), (land, move, a, b, c))

    def test_forty_figures(self):
        whole = 2 * FORTY * FORTY + 2 * FORTY + 1
        for a, b, c, told in (
            (1, 1, FORTY, whole), (1, 1, FORTY - 1, whole - FORTY - 1), (1, 1, -FORTY, FORTY + 1), (1, 1, -FORTY - 1, 0),
            (FORTY, FORTY, FORTY * FORTY - 1, whole - FORTY - 1), (FORTY, 0, 0, (whole + 2 * FORTY + 1) // 2),
            (0, -FORTY, -1, (whole - 2 * FORTY - 1) // 2), (3 * FORTY + 1, 2, -1, (whole - 1) // 2),
            (FORTY, FORTY + 1, 0, (whole + 1) // 2), (FORTY, FORTY + 1, -1, (whole - 1) // 2),
        ):
            self.assertEqual(within(12000, share, WIDE, a, b, c), told, (a, b, c))

    def test_steps_go_with_the_figures(self):
        low, high = golden()
        land = [(0, 0), (high, low), (high - 1, high)]
        for a, b in ((high, -low), (low, high), (high, 0), (0, low), (-low, low - 1)):
            one = within(90000, share, land, a, b, low)
            other = within(90000, share, land, -a, -b, -low - 1)
            self.assertEqual(one + other, count(land))


class ListsTest(StakeCase):
    """[2]"""

    def test_nothing_handed_in_is_changed(self):
        for land in SOME:
            points = list(land)
            for deed, given in (
                (columns, (points, -2, 2)), (columns, (points, 2, -2)), (share, (points, 0, 0, 1)),
                (share, (points, -2, 3, 1)), (share, (points, 0, 4, 1)),
            ):
                self.assertEqual(deed(*given), deed(*given))
                self.assertEqual(points, land)


if __name__ == "__main__":
    unittest.main()
