"""Fields taken several times and put together: point [14], and what point [2] says of lists."""

import itertools
import unittest

from helping import FAR, FAR_MOVES, FIELDS, MOVES, SIXTY, SQUARE, StakeCase, some_fields, walked, within
from stakefield.fields import double_area, field, field_moved, is_field, where
from stakefield.sums import fold, mixed, together

ORIGIN = [(0, 0)]
SOME = list(FIELDS) + some_fields(24, 4)


def all_sums(one, other):
    return [(P[0] + Q[0], P[1] + Q[1]) for P in one for Q in other]


class FoldTest(StakeCase):
    """[14]: the k-fold field."""

    def test_written_out(self):
        land = [(-1, 0), (2, 1), (0, 3)]
        for k, told in (
            (0, [(0, 0)]), (1, land), (2, [(-2, 0), (4, 2), (0, 6)]), (5, [(-5, 0), (10, 5), (0, 15)]),
            (-1, [(-2, -1), (0, -3), (1, 0)]), (-3, [(-6, -3), (0, -9), (3, 0)]),
        ):
            with self.subTest(k=k):
                self.assertEqual(fold(land, k), told)

    def test_one_and_two_corners(self):
        self.assertEqual(fold([(2, -5)], 3), [(6, -15)])
        self.assertEqual(fold([(2, -5)], -3), [(-6, 15)])
        self.assertEqual(fold([(2, -5)], 0), ORIGIN)
        self.assertEqual(fold([(2, 1), (4, 0)], 2), [(4, 2), (8, 0)])
        self.assertEqual(fold([(2, 1), (4, 0)], -2), [(-8, 0), (-4, -2)])
        self.assertEqual(fold([(2, 1), (2, 7)], -1), [(-2, -7), (-2, -1)])
        self.assertEqual(fold([(2, 1), (4, 0)], 0), ORIGIN)

    def test_the_field_of_the_corners_times_k(self):
        for land, k in itertools.product(SOME, range(-4, 5)):
            told = fold(land, k)
            self.assertIs(is_field(told), True)
            self.assertEqual(sorted(told), sorted(set((k * x, k * y) for x, y in land)))

    def test_k_of_sixty_figures(self):
        self.assertEqual(len(str(SIXTY)), 60)
        for land, k in itertools.product(SOME, (SIXTY, -SIXTY)):
            told = within(3000, fold, land, k)
            self.assertEqual(told, field([(k * x, k * y) for x, y in land]))
            self.assertEqual(double_area(told), k * k * double_area(land))

    def test_fold_of_fold(self):
        for land in SOME:
            self.assertEqual(fold(fold(land, 3), -2), fold(land, -6))
            self.assertEqual(fold(fold(land, -1), -1), land)


class TogetherTest(StakeCase):
    """[14]: two fields together."""

    def test_written_out(self):
        unit = [(0, 0), (1, 0), (0, 1)]
        for one, other, told in (
            ([(2, 3)], [(-5, 1)], [(-3, 4)]),
            ([(2, 3)], [(0, 0), (1, 4)], [(2, 3), (3, 7)]),
            ([(2, 3)], SQUARE, [(2, 3), (6, 3), (6, 7), (2, 7)]),
            ([(0, 0), (2, 1)], [(0, 0), (4, 2)], [(0, 0), (6, 3)]),
            ([(0, 0), (0, 2)], [(1, 1), (1, 5)], [(1, 1), (1, 7)]),
            ([(0, 0), (3, 0)], [(0, 0), (0, 2)], [(0, 0), (3, 0), (3, 2), (0, 2)]),
            ([(0, 0), (1, 1)], [(0, 0), (1, -1)], [(0, 0), (1, -1), (2, 0), (1, 1)]),
            (unit, [(0, 0), (2, 0)], [(0, 0), (3, 0), (2, 1), (0, 1)]),
            (unit, [(0, 0), (1, 1)], [(0, 0), (1, 0), (2, 1), (1, 2), (0, 1)]),
            (unit, unit, [(0, 0), (2, 0), (0, 2)]),
            (unit, fold(unit, -1), [(-1, 0), (0, -1), (1, -1), (1, 0), (0, 1), (-1, 1)]),
            (unit, SQUARE, [(0, 0), (5, 0), (5, 4), (4, 5), (0, 5)]),
        ):
            with self.subTest(one=one, other=other):
                self.assertEqual(together(one, other), told)
                self.assertEqual(together(other, one), told)

    def test_the_field_of_all_sums_of_corners(self):
        for one, other in itertools.product(SOME, repeat=2):
            told = together(one, other)
            self.assertEqual(told, field(all_sums(one, other)), (one, other))
            self.assertIs(is_field(told), True)

    def test_the_field_of_all_sums_of_whole_points(self):
        for one, other in itertools.product(FIELDS, repeat=2):
            sums = all_sums(walked(one), walked(other))
            told = together(one, other)
            self.assertEqual(told, field(sums), (one, other))
            self.assertTrue(all(where(told, P) > -1 for P in sums))

    def test_either_order_and_any_three(self):
        for one, other in itertools.product(SOME, repeat=2):
            self.assertEqual(together(one, other), together(other, one))
            third = [(0, 0), (5, 1), (2, 3)]
            self.assertEqual(together(together(one, other), third), together(one, together(other, third)))

    def test_a_field_and_itself_is_its_2_fold(self):
        for land in SOME:
            self.assertEqual(together(land, land), fold(land, 2))
            self.assertEqual(together(fold(land, 3), land), fold(land, 4))

    def test_with_one_point_it_is_shifted(self):
        for land in SOME:
            self.assertEqual(together(land, [(-4, FAR)]), field_moved(land, (1, 0, 0, 1, -4, FAR)))
            self.assertEqual(together([(-4, FAR)], land), field_moved(land, (1, 0, 0, 1, -4, FAR)))

    def test_sides_of_one_direction_are_one_side(self):
        told = together(SQUARE, [(1, 1), (3, 1), (3, 2), (1, 2)])
        self.assertEqual(told, [(1, 1), (7, 1), (7, 6), (1, 6)])
        for land in SOME:
            self.assertEqual(len(together(land, fold(land, 5))), len(land))

    def test_moved(self):
        for one, other, move in itertools.product(FIELDS, FIELDS, MOVES[2:] + FAR_MOVES[:2]):
            straight = move[:4] + (0, 0)
            told = together(field_moved(one, move), field_moved(other, straight))
            self.assertEqual(told, field_moved(together(one, other), move))

    def test_far_apart(self):
        one = [(-FAR, 0), (0, -FAR), (FAR, 0), (0, FAR)]
        other = [(0, 0), (FAR, 1), (FAR - 1, FAR)]
        self.assertEqual(within(2000, together, one, other), field(all_sums(one, other)))

    def test_two_hundred_corners_each(self):
        bow = [(x, x * x) for x in range(-99, 101)]
        other = field([(3 * x + y, x * x) for x, y in bow])
        told = within(40000, together, bow, other)
        self.assertEqual(told, field(all_sums(bow, other)))
        self.assertEqual(within(40000, together, bow, bow), fold(bow, 2))


class MixedTest(StakeCase):
    """[14]: the mixed area."""

    def test_written_out(self):
        unit = [(0, 0), (1, 0), (0, 1)]
        for one, other, told in (
            ([(2, 3)], [(9, 9)], 0), ([(0, 0), (3, 0)], [(0, 0), (0, 2)], 12), ([(0, 0), (3, 0)], [(1, 1), (2, 1)], 0),
            (unit, unit, 2), (unit, fold(unit, -1), 4), (unit, SQUARE, 16), (SQUARE, SQUARE, 64),
            (unit, [(0, 0), (2, 0)], 4), (unit, [(0, 0), (1, 1)], 4),
        ):
            with self.subTest(one=one, other=other):
                self.assertEqual(mixed(one, other), told)
                self.assertEqual(mixed(other, one), told)

    def test_as_the_document_says(self):
        for one, other in itertools.product(SOME, repeat=2):
            wanted = double_area(field(all_sums(one, other))) - double_area(one) - double_area(other)
            self.assertEqual(mixed(one, other), wanted)
            self.assertGreaterEqual(wanted, 0)

    def test_a_field_and_itself(self):
        for land in SOME:
            self.assertEqual(mixed(land, land), 2 * double_area(land))
            self.assertEqual(mixed(land, fold(land, 7)), 14 * double_area(land))

    def test_a_field_of_one_corner(self):
        for land in SOME:
            self.assertEqual(mixed(land, [(FAR, -3)]), 0)
            self.assertEqual(mixed(ORIGIN, land), 0)

    def test_goes_with_sums_and_multiples(self):
        third = [(0, 0), (5, 1), (2, 3)]
        for one, other in itertools.product(SOME, repeat=2):
            self.assertEqual(mixed(together(one, other), third), mixed(one, third) + mixed(other, third))
            self.assertEqual(mixed(fold(one, 3), other), 3 * mixed(one, other))

    def test_great_numbers(self):
        wide = [(0, 0), (FAR, 0), (FAR, FAR), (0, FAR)]
        self.assertEqual(within(3000, mixed, wide, wide), 4 * FAR * FAR)
        self.assertEqual(within(3000, mixed, wide, [(0, 0), (FAR, 1)]), 2 * FAR * (FAR + 1))


class ListsTest(StakeCase):
    """[2]"""

    def asked(self, land):
        for k in (-1, 0, 1, 3):
            yield fold, (land, k)
        for other in (ORIGIN, [(1, 2)], [(0, 0), (3, 1)], SQUARE, land):
            yield together, (land, other)
            yield together, (other, land)

    def test_lists_told_are_new_ones(self):
        for land in SOME:
            for deed, given in self.asked(list(land)):
                kept = [list(thing) if isinstance(thing, list) else thing for thing in given]
                told = deed(*given)
                again = deed(*given)
                self.assertEqual(told, again)
                self.assertFalse(any(told is thing for thing in given) or told is again)
                told.append((77, 77))
                self.assertEqual(list(given), kept)
                self.assertEqual(deed(*given), again)

    def test_of_k_1_and_of_one_point_it_is_a_copy(self):
        for land in SOME:
            for told in (fold(land, 1), together(land, ORIGIN), together(ORIGIN, land)):
                self.assertEqual(told, land)
                self.assertIsNot(told, land)

    def test_mixed_changes_nothing(self):
        for land in SOME:
            points = list(land)
            mixed(points, points)
            self.assertEqual(points, land)


if __name__ == "__main__":
    unittest.main()
