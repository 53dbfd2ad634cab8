"""How many whole points lie in a field's multiples: point [16], and what points [2] and [3] say of it."""

import itertools
import unittest

from helping import FAR, FAR_MOVES, FIELDS, MOVES, SIXTY, SQUARE, StakeCase, golden, some_fields, walked, within
from stakefield.counts import count, inner_count
from stakefield.errors import NoNumber
from stakefield.fields import double_area, field_moved, rim
from stakefield.sums import fold

SOME = list(FIELDS) + some_fields(40, 4)


class CountTest(StakeCase):
    """[16]"""

    def test_one_corner(self):
        for land in ([(0, 0)], [(-3, 5)], [(FAR, -FAR)]):
            for k in (0, 1, 2, 7, SIXTY):
                self.assertEqual((count(land, k), inner_count(land, k)), (1, 0), (land, k))

    def test_two_corners(self):
        for land, far in (
            ([(0, 0), (1, 0)], 1), ([(2, -1), (2, 8)], 9), ([(0, 4), (6, 0)], 2), ([(-1, 0), (5, 9)], 3),
            ([(0, 0), (FAR, FAR + 1)], 1), ([(0, 0), (FAR, FAR)], FAR),
        ):
            for k in (0, 1, 2, 7, SIXTY):
                self.assertEqual((count(land, k), inner_count(land, k)), (k * far + 1, 0), (land, k))

    def test_three_corners(self):
        land = [(0, 0), (1, 0), (0, 1)]
        for k, on_it, in_it in ((0, 1, 0), (1, 3, 0), (2, 6, 0), (3, 10, 1), (4, 15, 3), (5, 21, 6)):
            self.assertEqual((count(land, k), inner_count(land, k)), (on_it, in_it), k)
        self.assertEqual(count(land, SIXTY), (SIXTY + 1) * (SIXTY + 2) // 2)
        self.assertEqual(inner_count(land, SIXTY), (SIXTY - 1) * (SIXTY - 2) // 2)

    def test_more_corners(self):
        for k in (0, 1, 2, 3, 10, SIXTY):
            self.assertEqual(count(SQUARE, k), (4 * k + 1) ** 2, k)
            self.assertEqual(inner_count(SQUARE, k), (4 * k - 1) ** 2 if k else 0, k)
        diamond = [(-1, 0), (0, -1), (1, 0), (0, 1)]
        for k in (0, 1, 2, 3, 10, SIXTY):
            self.assertEqual(count(diamond, k), 2 * k * k + 2 * k + 1, k)
            self.assertEqual(inner_count(diamond, k), 2 * k * k - 2 * k + 1 if k else 0, k)

    def test_k_is_1_where_it_is_not_told(self):
        for land in SOME:
            self.assertEqual((count(land), inner_count(land)), (count(land, 1), inner_count(land, 1)))
            self.assertEqual((count(land, k=3), inner_count(land, k=3)), (count(land, 3), inner_count(land, 3)))

    def test_k_of_0(self):
        for land in SOME:
            self.assertEqual((count(land, 0), inner_count(land, 0)), (1, 0), land)

    def test_walking_through_windows(self):
        for land, k in itertools.product(SOME, range(4)):
            grown = fold(land, k)
            self.assertEqual(count(land, k), len(walked(grown)), (land, k))
            self.assertEqual(inner_count(land, k), len(walked(grown, 1)), (land, k))

    def test_both_and_the_rim(self):
        for land, k in itertools.product(SOME, (0, 1, 2, 5, SIXTY)):
            self.assertEqual(count(land, k), inner_count(land, k) + rim(fold(land, k)))
            if len(land) > 2:
                self.assertEqual(count(land, k) + inner_count(land, k), double_area(land) * k * k + (2 if k else 1))

    def test_of_the_k_fold_field(self):
        for land, k in itertools.product(SOME, (0, 1, 2, 5)):
            self.assertEqual((count(fold(land, k)), inner_count(fold(land, k))), (count(land, k), inner_count(land, k)))
            self.assertEqual(count(fold(land, -1), k), count(land, k))

    def test_the_moved_field_has_the_same_counts(self):
        for land, move, k in itertools.product(SOME, MOVES + FAR_MOVES, (0, 1, 3)):
            moved_land = field_moved(land, move)
            self.assertEqual(count(moved_land, k), count(land, k))
            self.assertEqual(inner_count(moved_land, k), inner_count(land, k))

    def test_k_below_0_is_refused(self):
        for land, k in itertools.product(SOME, (-1, -2, -SIXTY)):
            self.assert_refused(NoNumber, count, land, k)
            self.assert_refused(NoNumber, inner_count, land, k)

    def test_steps_go_with_the_figures(self):
        land = [(0, 0), (FAR, 0), (FAR, FAR), (0, FAR)]
        self.assertEqual(within(5000, count, land), (FAR + 1) ** 2)
        self.assertEqual(within(5000, inner_count, land), (FAR - 1) ** 2)
        self.assertEqual(within(20000, count, land, SIXTY), (FAR * SIXTY + 1) ** 2)
        low, high = golden()
        slanted = [(0, 0), (high, low), (high - 1, high)]
        self.assertEqual(within(30000, count, slanted), within(30000, inner_count, slanted) + rim(slanted))

    def test_nothing_handed_in_is_changed(self):
        for land, k in itertools.product(SOME, (0, 1, 3)):
            points = list(land)
            self.assertEqual(count(points, k), count(points, k))
            self.assertEqual(inner_count(points, k), inner_count(points, k))
            self.assertEqual(points, land)


if __name__ == "__main__":
    unittest.main()
