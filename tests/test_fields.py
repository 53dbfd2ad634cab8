"""Fields: points [9] to [13], and what point [2] says of lists."""

import itertools
import unittest

from helping import FAR, FIELDS, MOVES, SQUARE, StakeCase, within
from stakefield.errors import NoField, NoMove
from stakefield.fields import double_area, field, field_moved, is_field, rim, turn, where
from stakefield.moves import moved, steps

NINE = [(x, y) for x in range(3) for y in range(3)]


def area(P, Q, R):
    return abs((Q[0] - P[0]) * (R[1] - P[1]) - (Q[1] - P[1]) * (R[0] - P[0]))


def between(P, Q, R):
    """Whether R is on the stretch from P to Q."""
    inside = all(min(P[k], Q[k]) <= R[k] <= max(P[k], Q[k]) for k in (0, 1))
    return inside and area(P, Q, R) == 0


def on_triangle(P, Q, R, S):
    """Whether S is in or on the triangle P Q R, which may be flat."""
    if area(P, Q, R) == 0:
        return between(P, Q, S) or between(Q, R, S) or between(P, R, S)
    return area(P, Q, S) + area(Q, R, S) + area(R, P, S) == area(P, Q, R)


def is_corner(P, points):
    """Point 10, word for word."""
    others = sorted(set(points) - {P})
    if any(between(A, B, P) for A, B in itertools.combinations(others, 2)):
        return False
    return not any(on_triangle(A, B, C, P) for A, B, C in itertools.combinations(others, 3))


def rings(corners):
    return [corners[k:] + corners[:k] for k in range(len(corners))]


class FieldCase(StakeCase):
    def assert_field_of(self, points):
        """Checks field(points) by the words of point 10 alone."""
        told = field(points)
        self.assertEqual(sorted(told), sorted(P for P in set(points) if is_corner(P, points)), points)
        self.assertEqual(told[0], min(points))
        if len(told) > 2:
            for P, Q, R in zip(told, told[1:] + told[:1], told[2:] + told[:2]):
                self.assertEqual(turn(P, Q, R), 1, points)
            # To the left at each corner could still be several rounds; seen from the least point it is one.
            for Q, R in zip(told[1:], told[2:]):
                self.assertEqual(turn(told[0], Q, R), 1, points)


class TurnTest(FieldCase):
    """[9]"""

    def test_written_out(self):
        for P, Q, R, told in (
            ((0, 0), (1, 0), (0, 1), 1), ((0, 0), (0, 1), (1, 0), -1), ((0, 0), (1, 0), (9, -1), -1),
            ((0, 0), (2, 1), (4, 2), 0), ((0, 0), (2, 1), (-4, -2), 0), ((4, 2), (4, 2), (7, 7), 0),
            ((4, 2), (7, 7), (4, 2), 0), ((4, 2), (7, 7), (7, 7), 0), ((1, 1), (1, 1), (1, 1), 0),
            ((5, 5), (3, 5), (4, 6), -1), ((5, 5), (3, 5), (4, 4), 1), ((5, 5), (5, 0), (6, 2), 1),
        ):
            with self.subTest(P=P, Q=Q, R=R):
                self.assertEqual(turn(P, Q, R), told)
                self.assertIs(type(turn(P, Q, R)), int)

    def test_great_numbers(self):
        self.assertEqual(turn((0, 0), (FAR, FAR + 1), (FAR - 1, FAR)), 1)
        self.assertEqual(turn((0, 0), (FAR, FAR + 1), (FAR + 1, FAR + 2)), -1)
        self.assertEqual(turn((-FAR, -FAR), (0, 1), (FAR, FAR + 2)), 0)

    def test_turned_about(self):
        for P, Q, R in itertools.product(NINE, repeat=3):
            told = turn(P, Q, R)
            self.assertEqual((turn(Q, R, P), turn(R, P, Q)), (told, told))
            self.assertEqual((turn(Q, P, R), turn(P, R, Q), turn(R, Q, P)), (-told, -told, -told))


class FieldTest(FieldCase):
    """[10]: the field of a list of points."""

    def test_points_that_are_all_one(self):
        self.assertEqual(field([(3, -4)]), [(3, -4)])
        self.assertEqual(field([(3, -4)] * 7), [(3, -4)])

    def test_points_on_a_line(self):
        self.assertEqual(field([(5, 1), (2, 1)]), [(2, 1), (5, 1)])
        self.assertEqual(field([(2, 9), (2, -1), (2, 4), (2, 9)]), [(2, -1), (2, 9)])
        self.assertEqual(field([(2, 2), (0, 4), (6, -2), (4, 0), (1, 3)]), [(0, 4), (6, -2)])
        self.assertEqual(field([(FAR, FAR), (0, 0), (-FAR, -FAR), (1, 1)]), [(-FAR, -FAR), (FAR, FAR)])

    def test_points_told_several_times(self):
        self.assertEqual(field(SQUARE + SQUARE + [(4, 4), (0, 0)]), SQUARE)

    def test_points_on_the_sides_and_within(self):
        more = [(2, 0), (4, 1), (4, 3), (1, 4), (3, 4), (0, 2), (2, 2), (1, 3)]
        self.assertEqual(field(more + SQUARE), SQUARE)
        self.assertEqual(field(SQUARE[::-1] + more), SQUARE)

    def test_the_least_first_then_to_the_left(self):
        self.assertEqual(field([(0, 1), (1, 0), (0, -1), (-1, 0)]), [(-1, 0), (0, -1), (1, 0), (0, 1)])
        self.assertEqual(field([(0, 5), (0, -5), (3, 0)]), [(0, -5), (3, 0), (0, 5)])
        self.assertEqual(field([(3, 5), (3, -5), (0, 0)]), [(0, 0), (3, -5), (3, 5)])

    def test_in_any_order(self):
        points = [(0, 0), (3, 1), (1, 3), (2, 2), (1, 1)]
        for order in itertools.permutations(points):
            self.assertEqual(field(list(order)), [(0, 0), (3, 1), (1, 3)])

    def test_all_of_nine_points_by_the_words_of_the_document(self):
        for size in range(1, 10):
            for points in itertools.combinations(NINE, size):
                self.assert_field_of(list(points))

    def test_some_lists_by_the_words_of_the_document(self):
        state = 1
        for size in list(range(1, 14)) * 4:
            points = []
            for k in range(size):
                state = state * 1103515245 % (2 ** 31 - 1)
                points.append((state % 7 - 3, state // 7 % 6 - 2))
            self.assert_field_of(points)

    def test_great_numbers(self):
        points = [(FAR, 0), (0, FAR), (0, 0), (1, 1), (FAR // 2, FAR // 2), (FAR // 2, FAR // 2 - 1)]
        self.assertEqual(within(2000, field, points), [(0, 0), (FAR, 0), (0, FAR)])
        points[4] = (FAR // 2, FAR // 2 + 1)
        self.assertEqual(field(points), [(0, 0), (FAR, 0), (FAR // 2, FAR // 2 + 1), (0, FAR)])

    def test_two_hundred_corners(self):
        bow = [(x, x * x) for x in range(-99, 101)]
        self.assertEqual(within(20000, field, bow[::-1]), bow)

    def test_no_points_are_refused(self):
        self.assert_refused(NoField, field, [])


class IsFieldTest(FieldCase):
    """[10]: which lists are fields."""

    def test_what_is_told_is_a_field(self):
        for land in FIELDS:
            with self.subTest(land=land):
                self.assertEqual(field(land), land)
                self.assertIs(is_field(land), True)

    def test_no_points(self):
        self.assertIs(is_field([]), False)

    def test_another_order(self):
        for land in FIELDS:
            for order in itertools.permutations(land) if len(land) < 5 else map(tuple, rings(land)):
                self.assertIs(is_field(list(order)), list(order) == land, order)

    def test_the_other_way_round(self):
        for land in FIELDS:
            if len(land) > 1:
                self.assertIs(is_field(land[::-1]), False)
                self.assertIs(is_field(land[:1] + land[:0:-1]), len(land) == 2)

    def test_a_corner_twice(self):
        for land in FIELDS:
            for k in range(len(land)):
                self.assertIs(is_field(land[:k + 1] + land[k:]), False)
            self.assertIs(is_field(land + land[:1]), False)

    def test_a_point_between_two_corners(self):
        self.assertIs(is_field([(0, 0), (2, 0), (4, 0)]), False)
        self.assertIs(is_field([(0, 0), (2, 0), (4, 0), (4, 4), (0, 4)]), False)
        self.assertIs(is_field([(0, 0), (4, 0), (4, 4), (0, 4), (0, 1)]), False)

    def test_a_bay(self):
        self.assertIs(is_field([(0, 0), (4, 0), (1, 1), (0, 4)]), False)

    def test_more_than_one_round(self):
        for land in FIELDS:
            self.assertIs(is_field(land * 2), False)
            self.assertIs(is_field(land * 3), False)
        star = [(0, 3), (6, 3), (1, 6), (3, 0), (5, 6)]
        for order in rings(star) + rings(star[::-1]):
            self.assertIs(is_field(order), False)


class WhereTest(FieldCase):
    """[11]"""

    def test_one_corner_is_rim_alone(self):
        self.assertEqual(where([(2, 3)], (2, 3)), 0)
        for P in ((2, 4), (2, 2), (3, 3), (1, 3), (0, 0), (FAR, 3)):
            self.assertEqual(where([(2, 3)], P), -1)

    def test_two_corners_are_rim_alone(self):
        land = [(0, 0), (6, 4)]
        for P, told in (
            ((0, 0), 0), ((3, 2), 0), ((6, 4), 0), ((9, 6), -1), ((-3, -2), -1), ((2, 1), -1), ((3, 3), -1), ((6, 5), -1),
        ):
            self.assertEqual(where(land, P), told, P)
        upright = [(5, -2), (5, 7)]
        for P, told in (((5, -2), 0), ((5, 0), 0), ((5, 7), 0), ((5, 8), -1), ((5, -3), -1), ((4, 0), -1), ((6, 0), -1)):
            self.assertEqual(where(upright, P), told, P)
        falling = [(0, 4), (6, 0)]
        for P, told in (((0, 4), 0), ((3, 2), 0), ((6, 0), 0), ((9, -2), -1), ((-3, 6), -1), ((3, 1), -1), ((3, 3), -1)):
            self.assertEqual(where(falling, P), told, P)

    def test_three_corners(self):
        land = [(0, 0), (4, 0), (0, 4)]
        for P, told in (
            ((1, 1), 1), ((2, 1), 1), ((0, 0), 0), ((4, 0), 0), ((0, 4), 0), ((2, 2), 0), ((1, 0), 0), ((0, 3), 0),
            ((5, 0), -1), ((-1, 0), -1), ((0, 5), -1), ((0, -1), -1), ((5, -1), -1), ((-1, 5), -1), ((3, 2), -1),
        ):
            self.assertEqual(where(land, P), told, P)

    def test_beyond_the_ends_of_each_side(self):
        for land in FIELDS:
            for A, B in zip(land, land[1:] + land[:1]):
                if A != B:
                    self.assertEqual(where(land, (2 * B[0] - A[0], 2 * B[1] - A[1])), -1)
                    self.assertEqual(where(land, (2 * A[0] - B[0], 2 * A[1] - B[1])), -1)
                    self.assertEqual((where(land, A), where(land, B)), (0, 0))

    def test_by_sides_and_triangles(self):
        for land in FIELDS:
            for P in itertools.product(range(-4, 8), range(-4, 10)):
                if any(between(A, B, P) for A, B in zip(land, land[1:] + land[:1])):
                    wanted = 0
                elif len(land) > 2 and any(on_triangle(land[0], A, B, P) for A, B in zip(land[1:], land[2:])):
                    wanted = 1
                else:
                    wanted = -1
                self.assertEqual(where(land, P), wanted, (land, P))

    def test_great_numbers(self):
        land = [(0, 0), (FAR, 0), (FAR, FAR), (0, FAR)]
        for P, told in (
            ((1, 1), 1), ((FAR - 1, FAR - 1), 1), ((FAR, 5), 0), ((FAR + 1, 5), -1), ((-1, 0), -1), ((FAR, FAR + 1), -1),
        ):
            self.assertEqual(within(500, where, land, P), told, P)
        self.assertEqual(within(500, where, [(0, 0), (FAR, FAR + 1)], (FAR - 1, FAR)), -1)
        self.assertEqual(where([(0, 0), (2 * FAR, 2 * FAR + 2)], (FAR, FAR + 1)), 0)


class AreaAndRimTest(FieldCase):
    """[12]"""

    def test_written_out(self):
        for land, doubled, round_it in (
            ([(5, -5)], 0, 1), ([(0, 0), (1, 0)], 0, 2), ([(0, 0), (6, 4)], 0, 3), ([(0, 4), (6, 0)], 0, 3),
            ([(2, -1), (2, 8)], 0, 10), ([(0, 0), (1, 0), (0, 1)], 1, 3), ([(0, 0), (3, 0), (0, 6)], 18, 12),
            (SQUARE, 32, 16), ([(-1, 0), (0, -1), (1, 0), (0, 1)], 4, 4), ([(10, 10), (12, 10), (11, 13)], 6, 4),
        ):
            with self.subTest(land=land):
                self.assertEqual(double_area(land), doubled)
                self.assertEqual(rim(land), round_it)

    def test_rim_is_how_many_points_are_told_as_0(self):
        for land in FIELDS:
            grid = itertools.product(range(-4, 8), range(-4, 10))
            self.assertEqual(rim(land), sum(where(land, P) == 0 for P in grid), land)

    def test_double_area_goes_with_the_points_in_and_on(self):
        for land in FIELDS:
            if len(land) > 2:
                within_it = sum(where(land, P) == 1 for P in itertools.product(range(-4, 8), range(-4, 10)))
                self.assertEqual(double_area(land), 2 * within_it + rim(land) - 2, land)

    def test_great_numbers(self):
        land = [(0, 0), (FAR, 0), (FAR, FAR), (0, FAR)]
        self.assertEqual(within(500, double_area, land), 2 * FAR * FAR)
        self.assertEqual(within(5000, rim, land), 4 * FAR)
        self.assertEqual(within(5000, rim, [(-FAR, -FAR), (FAR, FAR)]), 2 * FAR + 1)
        self.assertEqual(within(5000, rim, [(-FAR, 0), (FAR, 1)]), 2)
        thin = [(0, 0), (FAR, FAR - 1), (FAR + 1, FAR)]
        self.assertEqual((double_area(thin), rim(thin)), (1, 3))
        self.assertEqual(double_area([(FAR, -FAR)]), 0)
        self.assertEqual(double_area([(FAR, -FAR), (FAR + 3, FAR)]), 0)


class FieldMovedTest(FieldCase):
    """[13]"""

    def test_written_out(self):
        land = [(0, 0), (3, 0), (0, 1)]
        self.assertEqual(field_moved(land, (1, 0, 0, 1, -7, 9)), [(-7, 9), (-4, 9), (-7, 10)])
        self.assertEqual(field_moved(land, (0, 1, 1, 0, 0, 0)), [(0, 0), (1, 0), (0, 3)])
        self.assertEqual(field_moved(land, (-1, 0, 0, 1, 0, 0)), [(-3, 0), (0, 0), (0, 1)])
        self.assertEqual(field_moved(land, (-1, 0, 0, -1, 0, 0)), [(-3, 0), (0, -1), (0, 0)])
        self.assertEqual(field_moved([(0, 0), (2, 1)], (-1, 0, 0, -1, 0, 0)), [(-2, -1), (0, 0)])
        self.assertEqual(field_moved([(3, 4)], (0, -1, 1, 0, 2, 2)), [(-2, 5)])

    def test_the_field_of_the_moved_corners(self):
        for land, move in itertools.product(FIELDS, MOVES):
            told = field_moved(land, move)
            self.assertIs(is_field(told), True)
            self.assertEqual(sorted(told), sorted(moved(P, move) for P in land))
            self.assertEqual((double_area(told), rim(told)), (double_area(land), rim(land)))

    def test_what_is_no_move_is_refused(self):
        for thing in (
            None, True, 1, "100100", [1, 0, 0, 1, 0, 0], (), (1, 0, 0, 1), (2, 0, 0, 1, 0, 0), (1, 1, 1, 1, 0, 0),
            (True, 0, 0, 1, 0, 0), (1.0, 0, 0, 1, 0, 0), (1, 0, 0, 1, 0, "0"), {}, object(),
        ):
            for land in FIELDS:
                self.assert_refused(NoMove, field_moved, land, thing)


class ListsTest(FieldCase):
    """[2]: nothing handed in is changed or kept, every list told is new; the same asked again is told the same."""

    def asked(self, land):
        for deed, given in (
            (field, (land,)), (is_field, (land,)), (where, (land, (1, 1))), (double_area, (land,)), (rim, (land,)),
            (field_moved, (land, MOVES[2])), (field_moved, (land, MOVES[0])),
        ):
            yield deed, given

    def test_lists_handed_in_stay_as_they_were(self):
        for land in list(FIELDS) + [SQUARE[::-1] + SQUARE + [(2, 0), (1, 1)], [(4, 4), (0, 0), (2, 2)], [(1, 1)] * 3]:
            points = list(land)
            for deed, given in self.asked(points):
                deed(*given)
                self.assertEqual(points, land, deed.__name__)

    def test_a_told_list_that_is_changed_changes_nothing_else(self):
        for land in FIELDS:
            points = list(land)
            for deed, given in self.asked(points):
                told = deed(*given)
                if isinstance(told, list):
                    kept = list(told)
                    again = deed(*given)
                    self.assertIsNot(told, points)
                    self.assertIsNot(told, again)
                    told.clear()
                    self.assertEqual((points, again, deed(*given)), (land, kept, kept))

    def test_a_handed_list_that_is_changed_later_changes_no_answer(self):
        for land in FIELDS:
            points = list(land)
            told = field(points)
            turned = field_moved(points, MOVES[0])
            points.clear()
            self.assertEqual((told, turned), (land, land))

    def test_the_same_asked_again(self):
        for land in FIELDS:
            for deed, given in self.asked(land):
                self.assertEqual(deed(*given), deed(*given))

    def test_far_points_are_asked_as_soon_as_near_ones(self):
        near = [(0, 0), (7, 1), (3, 9)]
        far = [(FAR * x + x, FAR * y - x) for x, y in near]
        for deed, given in self.asked(far):
            with self.subTest(deed=deed.__name__):
                within(6000, deed, *given)
        self.assertEqual(within(6000, steps, far[0], far[1]), 1)


if __name__ == "__main__":
    unittest.main()
