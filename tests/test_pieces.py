"""Another point, stakes, pieces and faces: points [15], [17], [18], and what points [2] and [3] say of them."""

import itertools
import unittest

from helping import FAR, FAR_MOVES, FIELDS, FORTY, HUNDRED, MOVES, ONE_MORE, VERY_GREAT, StakeCase, golden
from helping import some_fields, walked, within
from stakefield.counts import count
from stakefield.errors import Flat, TooMany
from stakefield.fields import double_area, field, field_moved, rim, turn, where
from stakefield.moves import moved
from stakefield.pieces import another, faces, pieces, stakes
from stakefield.sums import fold

NINE = [(x, y) for x in range(3) for y in range(3)]
SOME = [land for land in list(FIELDS) + some_fields(60, 4) if count(land) <= 100]


def orders(points):
    return list(itertools.permutations(points))


class AnotherTest(StakeCase):
    """[15]"""

    def check(self, P, Q, R, most=3000):
        """Another point in every order; answers that of the given one."""
        corners = field([P, Q, R])
        for order in orders((P, Q, R)):
            told = within(most, another, *order)
            if double_area(corners) == 1:
                # By the double area, which is twice the points in it and once those on the rim, less 2.
                self.assertIsNone(told, order)
            else:
                self.assertIs(type(told), tuple, order)
                self.assertEqual([type(number) for number in told], [int, int])
                self.assertNotIn(told, order)
                self.assertGreaterEqual(where(corners, told), 0, order)
        return another(P, Q, R)

    def test_none_where_no_other_lies_there(self):
        for P, Q, R in (
            ((0, 0), (1, 0), (0, 1)), ((5, 5), (7, 6), (8, 7)), ((-3, 2), (-2, 2), (9, 3)), ((0, 0), (FAR, FAR - 1), (FAR + 1, FAR)),
        ):
            self.assertIsNone(self.check(P, Q, R))

    def test_one_on_a_side_alone(self):
        for P, Q, R, told in (
            ((0, 0), (2, 0), (0, 1), (1, 0)), ((0, 0), (1, 0), (0, 2), (0, 1)), ((1, 0), (2, 2), (3, 2), (2, 1)),
            ((0, 0), (4, 6), (1, 2), (2, 3)), ((-1, 0), (1, 0), (FAR, 1), (0, 0)),
        ):
            self.assertEqual(double_area(field([P, Q, R])), 2)
            self.assertEqual(self.check(P, Q, R), told)

    def test_one_inside_alone(self):
        for P, Q, R, told in (
            ((0, 0), (2, 1), (1, 2), (1, 1)), ((-1, -1), (1, 0), (0, 1), (0, 0)), ((4, 4), (6, 5), (5, 3), (5, 4)),
        ):
            self.assertEqual(double_area(field([P, Q, R])), 3)
            self.assertEqual(self.check(P, Q, R), told)

    def test_all_of_small_windows(self):
        window = list(itertools.product(range(-2, 3), range(-1, 3)))
        for P, Q, R in itertools.combinations(window, 3):
            corners = field([P, Q, R])
            others = [S for S in walked(corners) if S not in (P, Q, R)]
            for order in orders((P, Q, R)):
                if len(corners) < 3:
                    self.assert_refused(Flat, another, *order)
                elif others:
                    self.assertIn(another(*order), others, order)
                else:
                    self.assertIsNone(another(*order), order)

    def test_greater_triangles(self):
        for land in some_fields(120, 60, 3) + some_fields(120, 10 ** 4, 3):
            if len(land) == 3:
                self.check(*land)

    def test_forty_figures(self):
        for P, Q, R in (
            ((0, 0), (FORTY, 0), (0, FORTY)), ((FORTY, -FORTY), (-FORTY, FORTY + 1), (3, FORTY + 7)),
            ((0, 0), (1, 0), (FORTY, FORTY + 1)), ((0, 0), (1, 1), (FORTY, FORTY + 3)), ((0, 0), (1, 0), (-FORTY, 2)),
            ((0, 0), (FORTY, FORTY + 1), (2 * FORTY + 1, 2 * FORTY + 3)), ((0, 0), (FORTY, 1), (2 * FORTY, 3)),
            ((-FORTY, 1), (FORTY, 2), (0, -1)), ((0, 0), (2 * FORTY, 2), (2 * FORTY - 1, 2)),
        ):
            self.check(P, Q, R)

    def test_triangles_far_moved(self):
        for land, move in itertools.product(some_fields(60, 3, 3), FAR_MOVES):
            if len(land) == 3:
                self.check(*field_moved(land, move))

    def test_points_on_a_line_are_refused(self):
        for P, Q, R in (
            ((0, 0), (1, 1), (2, 2)), ((0, 0), (3, 0), (1, 0)), ((2, 9), (2, -1), (2, 4)), ((0, 0), (0, 0), (1, 5)),
            ((3, 4), (3, 4), (3, 4)), ((0, 0), (FORTY, FORTY + 1), (-FORTY, -FORTY - 1)), ((FORTY, 1), (FORTY, 1), (0, 0)),
        ):
            for order in orders((P, Q, R)):
                self.assert_refused(Flat, another, *order)

    def test_steps_go_with_the_figures(self):
        low, high = golden()
        self.check((0, 0), (high, low), (high - 1, high), 25000)
        self.check((0, 0), (high, low), (low - high, high), 25000)

    def test_the_same_asked_again(self):
        for P, Q, R in itertools.combinations(NINE, 3):
            if turn(P, Q, R) != 0:
                self.assertEqual(another(P, Q, R), another(P, Q, R))


class StakesTest(StakeCase):
    """[17]: the stakes."""

    def test_written_out(self):
        for land, told in (
            ([(3, -5)], [(3, -5)]), ([(0, 4), (6, 0)], [(0, 4), (3, 2), (6, 0)]), ([(2, -1), (2, 1)], [(2, -1), (2, 0), (2, 1)]),
            ([(0, 0), (1, 0), (0, 1)], [(0, 0), (0, 1), (1, 0)]), ([(0, 0), (2, 1), (1, 2)], [(0, 0), (1, 1), (1, 2), (2, 1)]),
            ([(-1, 0), (0, -1), (1, 0), (0, 1)], [(-1, 0), (0, -1), (0, 0), (0, 1), (1, 0)]),
        ):
            self.assertEqual(stakes(land), told)

    def test_walking_through_windows(self):
        for land in SOME:
            self.assertEqual(stakes(land), walked(land), land)

    def test_as_many_as_the_count(self):
        for land in SOME:
            self.assertEqual(len(stakes(land)), count(land))

    def test_far_apart(self):
        for land, move in itertools.product(SOME, MOVES + FAR_MOVES):
            wanted = sorted(moved(P, move) for P in walked(land))
            self.assertEqual(stakes(field_moved(land, move)), wanted, (land, move))

    def test_exactly_one_hundred(self):
        for land in HUNDRED:
            self.assertEqual(count(land), 100)
            self.assertEqual(stakes(land), walked(land))
            for move in FAR_MOVES:
                there = field_moved(land, move)
                self.assertEqual(within(30000, stakes, there), sorted(moved(P, move) for P in walked(land)))

    def test_one_hundred_and_one_are_refused(self):
        for land in ONE_MORE:
            self.assertEqual(count(land), 101)
            for there in [land] + [field_moved(land, move) for move in FAR_MOVES]:
                self.assert_refused(TooMany, stakes, there)
                self.assert_refused(TooMany, pieces, there)

    def test_very_great_fields_are_refused_soon(self):
        for land in VERY_GREAT:
            self.assert_refused(TooMany, within, 8000, stakes, land)
            self.assert_refused(TooMany, within, 8000, pieces, land)

    def test_two_hundred_figures(self):
        low, high = golden()
        far = (high, low, low, high - low, -high, low)
        for land in SOME + list(HUNDRED):
            there = field_moved(land, far)
            self.assertEqual(within(200000, stakes, there), sorted(moved(P, far) for P in walked(land)))


class PiecesTest(StakeCase):
    """[17]: the pieces."""

    def check(self, land):
        told = pieces(land)
        row = stakes(land)
        self.assertIs(type(told), list)
        self.assertEqual(told, sorted(told), land)
        self.assertEqual(len(told), len(set(told)), land)
        for piece in told:
            self.assertIs(type(piece), tuple)
            # A field of three corners is told with the least first, going round to the left.
            self.assertEqual((len(piece), field(list(piece))), (3, list(piece)), land)
            self.assertEqual([S for S in row if where(list(piece), S) > -1], sorted(piece), land)
        self.assertEqual(sum(double_area(list(piece)) for piece in told), double_area(land), land)
        self.assert_apart(told, land)

    def assert_apart(self, told, land):
        """No two triangles have more in common than a side of both, a corner of both or nothing."""
        for one, other in itertools.combinations(told, 2):
            ends = self.common(one, other)
            if ends is None:
                ends = self.common(other, one)
            self.assertIsNotNone(ends, (land, one, other))
            self.assertEqual(ends, tuple(sorted(P for P in one if P in other)), (land, one, other))

    def common(self, one, other):
        """The ends of what both have in common, where a side of the one parts them; else None."""
        for A, B in zip(one, one[1:] + one[:1]):
            if all(turn(A, B, P) < 1 for P in other):
                on_line = [P for P in other if turn(A, B, P) == 0]
                if not on_line:
                    return ()
                first, last = max(min(A, B), min(on_line)), min(max(A, B), max(on_line))
                return () if first > last else (first,) if first == last else (first, last)
        return None

    def test_one_corner(self):
        for P in ((0, 0), (-3, 5), (FAR, -FAR)):
            self.assertEqual(pieces([P]), [(P,)])

    def test_two_corners(self):
        self.assertEqual(pieces([(0, 0), (1, 0)]), [((0, 0), (1, 0))])
        self.assertEqual(pieces([(0, 4), (6, 0)]), [((0, 4), (3, 2)), ((3, 2), (6, 0))])
        self.assertEqual(pieces([(2, -1), (2, 1)]), [((2, -1), (2, 0)), ((2, 0), (2, 1))])
        for land in SOME + list(HUNDRED):
            if len(land) == 2:
                row = walked(land)
                self.assertEqual(pieces(land), list(zip(row, row[1:])))
        self.assertEqual(pieces([(0, 0), (FAR, FAR + 1)]), [((0, 0), (FAR, FAR + 1))])

    def test_three_corners_written_out(self):
        self.assertEqual(pieces([(0, 0), (1, 0), (0, 1)]), [((0, 0), (1, 0), (0, 1))])
        self.assertEqual(
            pieces([(0, 0), (2, 1), (1, 2)]),
            [((0, 0), (1, 1), (1, 2)), ((0, 0), (2, 1), (1, 1)), ((1, 1), (2, 1), (1, 2))],
        )
        self.assertEqual(
            pieces([(0, 0), (2, 0), (0, 1)]), [((0, 0), (1, 0), (0, 1)), ((0, 1), (1, 0), (2, 0))],
        )

    def test_some_fields(self):
        for land in SOME:
            if len(land) > 2:
                self.check(land)

    def test_all_of_nine_points(self):
        for size in range(3, 7):
            for points in itertools.combinations(NINE, size):
                if len(field(points)) == size:
                    self.check(field(points))

    def test_exactly_one_hundred(self):
        for land in HUNDRED[2:]:
            self.check(land)
            self.assertEqual(len(pieces(land)), double_area(land))

    def test_far_apart(self):
        for land, move in itertools.product([land for land in FIELDS if len(land) > 2], FAR_MOVES):
            self.check(field_moved(land, move))
        for move in FAR_MOVES:
            within(60000, pieces, field_moved(HUNDRED[2], move))

    def test_sides_that_belong_to_one_piece_are_the_rim(self):
        for land in SOME:
            if len(land) > 2:
                sides = []
                for piece in pieces(land):
                    sides += [tuple(sorted(pair)) for pair in itertools.combinations(piece, 2)]
                seen = [sides.count(side) for side in set(sides)]
                self.assertLessEqual(max(seen), 2)
                self.assertEqual(seen.count(1), rim(land))

    def test_each_point_of_a_multiple_is_told_in_one_way(self):
        """[3]: K stakes of one piece, some of them several times, in just one way."""
        for land, k in itertools.product(SOME[:40], range(4)):
            told = {}
            for piece in pieces(land):
                for some in itertools.combinations_with_replacement(sorted(piece), k):
                    place = (sum(P[0] for P in some), sum(P[1] for P in some))
                    told.setdefault(place, set()).add(some)
            self.assertEqual(sorted(told), walked(fold(land, k)), (land, k))
            self.assertEqual(len(told), count(land, k))
            self.assertEqual({len(ways) for ways in told.values()}, {1}, (land, k))


class FacesTest(StakeCase):
    """[18]"""

    def test_written_out(self):
        O, A, B, C = (0, 0), (1, 0), (0, 1), (5, -FAR)
        for some, told in (
            ([], (0, 0, 0)), ([(O,)], (1, 0, 0)), ([(O,), (O,)], (1, 0, 0)), ([(O,), (A,)], (2, 0, 0)),
            ([(O, A)], (2, 1, 0)), ([(O, A), (A, O)], (2, 1, 0)), ([(O, A), (A, B)], (3, 2, 0)),
            ([(O, A), (O,)], (2, 1, 0)), ([(O, A), (B,)], (3, 1, 0)), ([(O, A, B)], (3, 3, 1)),
            ([(O, A, B), (O, A, B)], (3, 3, 2)), ([(O, A, B), (B, O, A), (B, A, O)], (3, 3, 3)),
            ([(O, A, B), (A, C, B)], (4, 5, 2)), ([(O, A, B), (B, A)], (3, 3, 1)), ([(O, A, B), (C, A)], (4, 4, 1)),
            ([(O, A, B), (C,)], (4, 3, 1)), ([(C, B, A), (A, O), (O,), (O, A)], (4, 4, 1)),
        ):
            with self.subTest(some=some):
                self.assertEqual(faces(some), told)
                self.assertEqual(faces(some[::-1]), told)
                self.assertEqual(faces([piece[::-1] for piece in some]), told)
                self.assertIs(type(faces(some)), tuple)
                self.assertEqual([type(number) for number in faces(some)], [int, int, int])

    def test_of_pieces(self):
        for land in SOME:
            told = faces(pieces(land))
            self.assertEqual(told[0], count(land))
            self.assertEqual(told[2], double_area(land))
            self.assertEqual(told[0] - told[1] + told[2], 1)

    def test_two_hundred_tuples(self):
        some = [((k, 0), (k + 1, 0), (k, 1)) for k in range(200)]
        self.assertEqual(within(20000, faces, some), (401, 600, 200))


class ListsTest(StakeCase):
    """[2]"""

    def test_lists_told_are_new_ones(self):
        for land, deed in itertools.product(SOME, (stakes, pieces)):
            points = list(land)
            told = deed(points)
            again = deed(points)
            kept = list(told)
            self.assertEqual(told, again)
            self.assertFalse(told is again or told is points)
            told.clear()
            points.append((77, 77))
            self.assertEqual((again, deed(land)), (kept, kept))

    def test_nothing_handed_in_is_changed(self):
        for land in SOME:
            points = list(land)
            stakes(points)
            some = pieces(points)
            kept = list(some)
            self.assertEqual(faces(some), faces(some))
            self.assertEqual((points, some), (land, kept))


if __name__ == "__main__":
    unittest.main()
