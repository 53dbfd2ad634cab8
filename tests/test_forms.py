"""Stands, forms, fields that are alike and own moves: points [29] to [31], and what points [2] and [3] say of them."""

import itertools
import math
import unittest
from fractions import Fraction

from helping import CORNER, FAR, FAR_MOVES, FIELDS, FORTY, HEXAGON, MOVES, SIXTY, SLOPE, SQUARE, STAY, StakeCase
from helping import golden, some_fields, walked, within
from stakefield.counts import count, inner_count
from stakefield.errors import Flat
from stakefield.fields import double_area, field, field_moved, is_field, rim
from stakefield.forms import alike, form, own_moves, stands, to_form
from stakefield.moves import behind, is_move, level, moved, way_back
from stakefield.pieces import stakes

SOME = list(FIELDS) + some_fields(40, 4)
WIDE = [land for land in SOME if len(land) > 2]
FLAT = [land for land in SOME if len(land) < 3] + [[(FAR, -SIXTY)], [(-FAR, 0), (FAR, SIXTY)]]
# Fields of the same double area and rim (and so of the same counts) between which no move leads.
UNLIKE = (
    ([(0, 0), (1, 0), (2, 7)], [(0, 0), (1, 0), (3, 7)]), ([(0, 0), (2, 0), (0, 2)], [(0, 0), (4, 0), (0, 1)]),
    ([(0, 0), (2, 0), (2, 1), (0, 1)], [(0, 0), (3, 0), (1, 1), (0, 1)]),
    ([(0, 0), (2, 0), (2, 1), (0, 1)], [(0, 0), (2, 0), (0, 2)]),
    ([(0, 0), (1, 0), (FAR + 1, FAR * FAR + FAR + 1)], [(0, 0), (1, 0), (5, FAR * FAR + FAR + 1)]),
)
SMALL = list(itertools.product(range(3), repeat=2))


def affine(one, other):
    """The six numbers, whole or not, that take the three points of the one to those of the other."""
    (x0, y0), (x1, y1), (x2, y2) = one
    p, q, r, s = x1 - x0, y1 - y0, x2 - x0, y2 - y0
    area = p * s - q * r
    (X0, Y0), (X1, Y1), (X2, Y2) = other
    a, b = Fraction((X1 - X0) * s - (X2 - X0) * q, area), Fraction((X2 - X0) * p - (X1 - X0) * r, area)
    c, d = Fraction((Y1 - Y0) * s - (Y2 - Y0) * q, area), Fraction((Y2 - Y0) * p - (Y1 - Y0) * r, area)
    return a, b, c, d, X0 - a * x0 - b * y0, Y0 - c * x0 - d * y0


def all_moves(one, other):
    """All moves from the one to the other, in order: as neighbours stay neighbours, two for each corner."""
    found = []
    if len(one) == len(other):
        many = len(one)
        for k, way in itertools.product(range(many), (1, -1)):
            row = [other[(k + way * i) % many] for i in range(many)]
            numbers = affine(one[:3], row[:3])
            if all(number.denominator == 1 for number in numbers):
                move = tuple(int(number) for number in numbers)
                if is_move(move) and [moved(P, move) for P in one] == row:
                    found.append(move)
    return sorted(found)


def neighbours(land, k):
    return {land[k - 1], land[(k + 1) % len(land)]}


def is_stand(land, move):
    """As the point tells it, of a move."""
    there = {P: moved(P, move) for P in land}
    for k, P in enumerate(land):
        if there[P] == (0, 0):
            for Q in neighbours(land, k):
                (R,) = neighbours(land, k) - {Q}
                if there[Q][0] > 0 and there[Q][1] == 0 and 0 <= there[R][0] < there[R][1]:
                    return True
    return False


class StandsTest(StakeCase):
    """[29]"""

    def check(self, land):
        told = stands(land)
        self.assertEqual(len(told), 2 * len(land), land)
        self.assertEqual(told, sorted(set(told)), land)
        for move in told:
            self.assertTrue(is_move(move) and is_stand(land, move), (land, move))

    def test_written_out(self):
        self.assertEqual(stands(CORNER), [
            (-1, -1, 0, 1, 1, 0), (-1, -1, 1, 0, 1, 0), (0, 1, -1, -1, 0, 1), (0, 1, 1, 0, 0, 0),
            (1, 0, -1, -1, 0, 1), STAY,
        ])
        self.assertEqual(stands(SLOPE), [
            (-1, -2, -2, -3, 4, 6), (-1, -1, -2, -3, 3, 6), (-1, -1, 0, 1, 3, 0), (0, -1, 1, 0, 2, 0),
            (0, 1, 1, 0, 0, 0), STAY,
        ])

    def test_some_fields(self):
        for land in WIDE + [SQUARE, HEXAGON]:
            self.check(land)

    def test_all_that_there_are(self):
        turns = [turn for turn in itertools.product(range(-3, 4), repeat=4) if turn[0] * turn[3] - turn[1] * turn[2] in (1, -1)]
        for land in [CORNER, SQUARE, HEXAGON] + WIDE[:12]:
            told = stands(land)
            wanted = []
            for turn, P in itertools.product(turns, land):
                e, f = moved(P, turn + (0, 0))
                if is_stand(land, turn + (-e, -f)):
                    wanted.append(turn + (-e, -f))
            self.assertEqual([move for move in told if max(map(abs, move[:4])) < 4], sorted(wanted), land)

    def test_far_apart(self):
        for land, move in itertools.product(FIELDS, FAR_MOVES):
            if len(land) > 2:
                self.check(field_moved(land, move))

    def test_one_and_two_corners_are_refused(self):
        for land in FLAT:
            self.assert_refused(Flat, stands, land)

    def test_steps_go_with_the_figures(self):
        low, high = golden()
        self.assertEqual(len(within(120000, stands, [(0, 0), (high, low), (low, high)])), 6)


class FormTest(StakeCase):
    """[30]"""

    def test_written_out(self):
        for land, told in (
            (CORNER, CORNER), (SLOPE, [(0, 0), (1, 0), (3, 6)]), ([(4, 5), (5, 5), (6, 6)], CORNER),
            ([(0, 0), (3, 0), (0, 6)], [(0, 0), (3, 0), (0, 6)]),
            (SQUARE, SQUARE), ([(-1, 0), (0, -1), (1, 0), (0, 1)], [(0, 0), (1, 0), (2, 2), (1, 2)]),
            (HEXAGON, [(0, 0), (1, 0), (2, 1), (2, 2), (1, 2), (0, 1)]), ([(0, 0), (1, 0), (3, 7)], [(0, 0), (1, 0), (3, 7)]),
            ([(0, 0), (1, 0), (4, 7)], [(0, 0), (1, 0), (2, 7)]),
        ):
            self.assertEqual(form(land), told)
        self.assertEqual(to_form(SLOPE), (-1, -1, -2, -3, 3, 6))
        self.assertEqual(to_form([(0, 0), (3, 0), (0, 6)]), (1, 0, -2, -1, 0, 6))

    def test_one_corner(self):
        for P in ((0, 0), (3, -5), (FAR, -SIXTY)):
            self.assertEqual(to_form([P]), (1, 0, 0, 1, -P[0], -P[1]))
            self.assertEqual(form([P]), [(0, 0)])

    def test_two_corners(self):
        for land, told in (
            ([(0, 0), (1, 0)], [(0, 0), (1, 0)]), ([(2, -1), (2, 8)], [(0, 0), (9, 0)]), ([(-1, 0), (5, 9)], [(0, 0), (3, 0)]),
            ([(0, 4), (6, 0)], [(0, 0), (2, 0)]), ([(-FAR, FAR), (FAR, -FAR)], [(0, 0), (2 * FAR, 0)]),
            ([(0, 0), (FAR, FAR + 1)], [(0, 0), (1, 0)]), ([(1, 1), (1 + 6 * SIXTY, 1 + 9 * SIXTY)], [(0, 0), (3 * SIXTY, 0)]),
        ):
            self.assertEqual(to_form(land), level(land[0], land[1]))
            self.assertEqual(form(land), told)

    def test_the_least_of_the_fields_moved_by_stands(self):
        for land in WIDE + [SQUARE, HEXAGON]:
            fields = [field_moved(land, move) for move in stands(land)]
            self.assertEqual(form(land), min(fields), land)
            self.assertEqual(to_form(land), min(move for move in stands(land) if field_moved(land, move) == min(fields)))

    def test_the_move_takes_the_field_to_the_form(self):
        for land in SOME:
            told = form(land)
            self.assertIs(is_field(told), True)
            self.assertIs(is_move(to_form(land)), True)
            self.assertEqual(field_moved(land, to_form(land)), told)
            self.assertEqual(form(told), told)

    def test_the_same_form_moved(self):
        for land, move in itertools.product(SOME, MOVES + FAR_MOVES):
            there = field_moved(land, move)
            self.assertEqual(form(there), form(land), (land, move))
            self.assertEqual(field_moved(there, to_form(there)), form(land), (land, move))

    def test_the_same_counts(self):
        """[3]"""
        for land in SOME:
            told = form(land)
            for k in (1, 2, FORTY):
                self.assertEqual((count(told, k), inner_count(told, k)), (count(land, k), inner_count(land, k)))
            if count(land) <= 100:
                self.assertEqual(stakes(told), sorted(moved(P, to_form(land)) for P in walked(land)))

    def test_great_numbers(self):
        self.assertEqual(form([(0, 0), (FORTY, 0), (0, FORTY)]), [(0, 0), (FORTY, 0), (0, FORTY)])
        self.assertEqual(form([(0, 0), (SIXTY, 0), (0, 1)]), [(0, 0), (1, 0), (0, SIXTY)])
        self.assertEqual(form([(0, 0), (1, 0), (SIXTY, 1)]), CORNER)
        self.assertEqual(form([(-FAR, 0), (0, -FAR), (FAR, 0), (0, FAR)]), [(0, 0), (FAR, 0), (2 * FAR, 2 * FAR), (FAR, 2 * FAR)])

    def test_steps_go_with_the_figures(self):
        low, high = golden()
        far = (high, low, low, high - low, -high, low)
        for land in (CORNER, SQUARE, HEXAGON):
            self.assertEqual(within(60000 * len(land), form, field_moved(land, far)), form(land))

    def test_two_hundred_corners(self):
        ways = [(a, b) for a, b in itertools.product(range(-9, 10), repeat=2) if math.gcd(a, b) == 1]
        ways = sorted(ways, key=lambda way: math.atan2(way[1], way[0]))[:200]
        points = list(itertools.accumulate(ways, lambda P, way: (P[0] + way[0], P[1] + way[1])))
        land = field(points)
        self.assertEqual(len(land), 200)
        self.assertEqual(form(field_moved(land, FAR_MOVES[4])), form(land))


class AlikeTest(StakeCase):
    """[31]: fields that are alike."""

    def test_fields_and_the_same_moved(self):
        for land, move in itertools.product(SOME, MOVES + FAR_MOVES):
            there = field_moved(land, move)
            for one, other in ((land, there), (there, land)):
                told = alike(one, other)
                self.assertIs(is_move(told), True, (one, other))
                self.assertEqual(field_moved(one, told), other)
                self.assertEqual(told, behind(to_form(one), way_back(to_form(other))))

    def test_written_out(self):
        for one, other, told in (
            ([(3, 4)], [(0, 9)], (1, 0, 0, 1, -3, 5)), (SQUARE, SQUARE, STAY), ([(0, 0)], [(0, 0)], STAY),
            ([(0, 0), (2, 0)], [(5, 5), (5, 7)], behind(STAY, way_back(level((5, 5), (5, 7))))),
        ):
            self.assertEqual(alike(one, other), told)

    def test_a_field_and_itself(self):
        for land in SOME:
            self.assertEqual(alike(land, list(land)), STAY)

    def test_unlike_with_the_same_double_area_and_rim(self):
        for one, other in UNLIKE:
            self.assertEqual((is_field(one), is_field(other)), (True, True))
            self.assertEqual((double_area(one), rim(one)), (double_area(other), rim(other)))
            for move in MOVES[:4] + FAR_MOVES:
                self.assertIsNone(alike(field_moved(one, move), other))
                self.assertIsNone(alike(other, field_moved(one, move)))

    def test_unlike_of_one_and_two_corners(self):
        for one, other in (
            ([(0, 0)], [(0, 0), (1, 0)]), ([(0, 0), (1, 0)], [(0, 0), (2, 0)]), ([(0, 0), (FAR, 0)], [(0, 0), (FAR + 1, 0)]),
            ([(0, 0), (1, 0)], CORNER), ([(5, 5)], CORNER), ([(0, 0), (4, 6)], [(0, 0), (9, 6)]), (CORNER, SQUARE),
        ):
            self.assertIsNone(alike(one, other))
            self.assertIsNone(alike(other, one))

    def test_just_where_a_move_leads_there(self):
        fields = {tuple(field(list(some))) for size in (3, 4) for some in itertools.combinations(SMALL, size)}
        fields = [list(land) for land in sorted(fields) if len(land) > 2]
        for one, other in itertools.product(fields[::2], fields[::7]):
            moves = all_moves(one, other)
            told = alike(one, other)
            self.assertEqual(form(one) == form(other), len(moves) > 0)
            if moves:
                self.assertIn(told, moves)
            else:
                self.assertIsNone(told)

    def test_just_where_a_move_leads_there_in_greater_fields(self):
        thin = [[(0, 0), (1, 0), (q, 31)] for q in range(2, 31)]
        for one, other in itertools.product(thin, repeat=2):
            self.assertEqual((double_area(one), rim(one)), (double_area(other), rim(other)))
            moves = all_moves(one, other)
            self.assertTrue(alike(one, other) in moves if moves else alike(one, other) is None, (one, other))


class OwnMovesTest(StakeCase):
    """[31]: own moves."""

    def test_written_out(self):
        self.assertEqual(own_moves([(0, 0), (3, 0), (0, 6)]), [(1, 0, -2, -1, 0, 6), STAY])
        self.assertEqual(own_moves([(0, 0), (1, 0), (1, 3), (0, 2)]), [STAY, (1, 0, 1, -1, 0, 2)])
        self.assertEqual(own_moves(SLOPE), [STAY])
        self.assertEqual(own_moves(CORNER), stands(CORNER))
        self.assertEqual(own_moves([(-1, -1), (1, -1), (1, 1), (-1, 1)]), [
            (-1, 0, 0, -1, 0, 0), (-1, 0, 0, 1, 0, 0), (0, -1, -1, 0, 0, 0), (0, -1, 1, 0, 0, 0),
            (0, 1, -1, 0, 0, 0), (0, 1, 1, 0, 0, 0), (1, 0, 0, -1, 0, 0), STAY,
        ])
        self.assertEqual(len(own_moves(HEXAGON)), 12)

    def test_all_that_there_are(self):
        for land in WIDE + [CORNER, SQUARE, HEXAGON] + [[(0, 0), (1, 0), (q, 31)] for q in range(2, 31)]:
            self.assertEqual(own_moves(land), all_moves(land, land), land)

    def test_far_apart(self):
        for land, move in itertools.product([CORNER, SQUARE, HEXAGON] + WIDE[:8], MOVES + FAR_MOVES):
            wanted = sorted(behind(behind(way_back(move), own), move) for own in own_moves(land))
            self.assertEqual(own_moves(field_moved(land, move)), wanted)

    def test_one_and_two_corners_are_refused(self):
        for land in FLAT:
            self.assert_refused(Flat, own_moves, land)

    def test_steps_go_with_the_figures(self):
        low, high = golden()
        far = (high, low, low, high - low, -high, low)
        self.assertEqual(len(within(600000, own_moves, field_moved(HEXAGON, far))), 12)


class ListsTest(StakeCase):
    """[2]"""

    def test_lists_told_are_new_ones(self):
        for land in SOME:
            self.assert_new_list(form, list(land))
            if len(land) > 2:
                self.assert_new_list(stands, list(land))
                self.assert_new_list(own_moves, list(land))

    def test_nothing_handed_in_is_changed(self):
        for land in SOME:
            points = list(land)
            there = field_moved(land, MOVES[7])
            self.assertEqual((to_form(points), alike(points, there)), (to_form(land), alike(land, list(there))))
            self.assertEqual((points, there), (land, field_moved(land, MOVES[7])))


if __name__ == "__main__":
    unittest.main()
