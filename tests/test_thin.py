"""Spans and thin ways: points [32] and [33], and what points [2] and [3] say of them."""

import copy
import itertools
import unittest

from helping import CORNER, FAR, FAR_MOVES, FIELDS, FORTY, HEARTS, HEXAGON, MOVES, SIXTY, SLANTS, SLOPE, SQUARE, VERY_GREAT
from helping import StakeCase, bowl, golden, some_fields, walked, within
from stakefield.fields import field_moved
from stakefield.moves import steps
from stakefield.thin import span, thin

SOME = list(FIELDS) + list(HEARTS) + some_fields(60, 4)
DIRECTIONS = list(itertools.product(range(-4, 5), repeat=2))
GREAT = ((FORTY, 0), (0, -FORTY), (FORTY, FORTY + 1), (-FORTY, 7), (FORTY - 2, -FORTY))


class SpanTest(StakeCase):
    """[32]"""

    def test_written_out(self):
        for land, a, b, told in (
            (SQUARE, 1, 0, 4), (SQUARE, 0, 1, 4), (SQUARE, 1, 1, 8), (SQUARE, 3, -2, 20), (SQUARE, 0, 0, 0),
            (SLOPE, 1, 0, 3), (SLOPE, 0, 1, 2), (SLOPE, 2, 3, 6), (SLOPE, 2, -3, 12), (SLOPE, -1, -1, 3),
            ([(-2, -1), (5, -3), (1, 4)], 1, 0, 7), ([(-2, -1), (5, -3), (1, 4)], 0, 1, 7),
            ([(-2, -1), (5, -3), (1, 4)], 2, 7, 41), ([(-3, 5)], 9, -4, 0), ([(0, 4), (6, 0)], 1, 1, 2),
            ([(0, 4), (6, 0)], 2, 3, 0), ([(0, 4), (6, 0)], 1, -1, 10),
        ):
            self.assertEqual(span(land, a, b), told, (land, a, b))

    def test_against_walking(self):
        for land in SOME:
            points = walked(land)
            for a, b in DIRECTIONS + list(GREAT):
                worths = [a * x + b * y for x, y in points]
                self.assertEqual(span(land, a, b), max(worths) - min(worths), (land, a, b))

    def test_along_no_direction_it_is_0(self):
        for land in SOME + list(VERY_GREAT):
            self.assertEqual(span(land, 0, 0), 0)

    def test_along_the_axes(self):
        for land in SOME + list(VERY_GREAT):
            for place, way in enumerate(((1, 0), (0, 1))):
                numbers = [P[place] for P in land]
                self.assertEqual(span(land, way[0], way[1]), max(numbers) - min(numbers))

    def test_one_corner_has_no_span(self):
        for P, way in itertools.product(((0, 0), (4, -9), (FAR, -SIXTY)), DIRECTIONS + list(GREAT)):
            self.assertEqual(span([P], way[0], way[1]), 0)

    def test_two_corners(self):
        for (a, b), (x, y) in itertools.product(DIRECTIONS + list(GREAT), ((1, 0), (0, 7), (5, -3), (FAR, -FORTY))):
            self.assertEqual(span([(2, 3), (2 + x, 3 + y)], a, b), abs(a * x + b * y))

    def test_opposite_and_multiples(self):
        for land, (a, b) in itertools.product(SOME, DIRECTIONS[::5] + list(GREAT)):
            once = span(land, a, b)
            for k in (-1, 2, -3, FORTY):
                self.assertEqual(span(land, k * a, k * b), abs(k) * once)

    def test_of_the_moved_field(self):
        for land, move in itertools.product(SOME, MOVES + FAR_MOVES):
            there = field_moved(land, move)
            for a, b in DIRECTIONS[::7] + list(GREAT):
                back = (a * move[0] + b * move[2], a * move[1] + b * move[3])
                self.assertEqual(span(there, a, b), span(land, back[0], back[1]))

    def test_great_numbers(self):
        self.assertEqual(span([(0, 0), (FORTY, 0), (0, FORTY)], FORTY, -FORTY), 2 * FORTY * FORTY)
        self.assertEqual(span([(0, 0), (FORTY, FORTY + 1)], FORTY + 1, -FORTY), 0)
        self.assertEqual(span(CORNER, FORTY, FORTY + 1), FORTY + 1)


def crossed_least(land, reach):
    """The least span along the directions of a window but (0, 0), and the least but along the multiples of that one."""
    ways = [way for way in itertools.product(range(-reach, reach + 1), repeat=2) if way != (0, 0)]
    first = min(ways, key=lambda way: span(land, way[0], way[1]))
    others = [way for way in ways if first[0] * way[1] != first[1] * way[0]]
    return span(land, first[0], first[1]), min(span(land, way[0], way[1]) for way in others)


class ThinTest(StakeCase):
    """[33]"""

    def check(self, land):
        """The ways told are as the point says; given back are the spans along both."""
        told = thin(land)
        self.assertEqual([type(told)] + [type(way) for way in told], [tuple, tuple, tuple])
        (a, b), (c, d) = told
        self.assertEqual({type(number) for number in (a, b, c, d)}, {int})
        self.assertIn(a * d - b * c, (1, -1))
        spans = [span(land, x, y) for x, y in ((a, b), (c, d), (a + c, b + d), (a - c, b - d))]
        self.assertLessEqual(spans[0], spans[1], land)
        self.assertLessEqual(spans[1], min(spans[2:]), land)
        return (spans[0], spans[1])

    def test_written_out(self):
        for land, spans in (
            (CORNER, (1, 1)), (SQUARE, (4, 4)), (SLOPE, (2, 3)), (HEXAGON, (2, 2)), ([(0, 0), (3, 0), (0, 6)], (3, 6)),
            ([(0, 0), (10, 3), (7, 9)], (9, 9)), ([(0, 0), (1, 0), (3, 7)], (3, 3)), ([(0, 0), (9, 40), (20, 90)], (1, 10)),
            ([(0, 0), (40, 0), (40, 1), (0, 1)], (1, 40)), ([(0, 0), (7, 12), (19, 33)], (1, 3)),
            ([(0, 0), (2, -1), (5, 0), (6, 3), (4, 6), (1, 5)], (6, 7)), ([(-1, -1), (2, -1), (-1, 2)], (3, 3)),
        ):
            self.assertEqual(self.check(land), spans, land)

    def test_one_corner(self):
        for P in ((0, 0), (-3, 5), (FAR, -SIXTY)):
            self.assertEqual(self.check([P]), (0, 0))

    def test_two_corners(self):
        low, high = golden()
        for P, Q in (
            ((0, 0), (1, 0)), ((0, 0), (0, 1)), ((2, -1), (2, 8)), ((-1, 0), (5, 9)), ((0, 4), (6, 0)),
            ((0, 0), (FAR, FAR + 1)), ((-FAR, FAR), (FAR, -FAR)), ((1, 1), (1 + 6 * SIXTY, 1 + 9 * SIXTY)),
            ((0, 0), (low, high)), ((0, high), (low, 0)),
        ):
            self.assertEqual(self.check([P, Q]), (0, steps(P, Q)))

    def test_no_lesser_span_in_a_window(self):
        for land in SOME:
            self.assertEqual(self.check(land), crossed_least(land, 9), land)

    def test_narrow_and_slanted_in_a_window(self):
        for p, q, r in itertools.product(range(1, 6), range(-3, 4), range(-2, 3)):
            move = (1 + q * r, q, r, 1, 5, -8)
            for land in ([(0, 0), (p, 0), (0, 1)], [(0, 0), (p, 0), (p + 1, 1), (1, 1)], [(0, 0), (p, 0), (2, 3)]):
                there = field_moved(land, move)
                self.assertEqual(self.check(there), crossed_least(there, 12), there)
                self.assertEqual(self.check(there), crossed_least(land, 12), there)

    def test_the_moved_field_is_as_thin(self):
        for land, move in itertools.product(SOME, MOVES + FAR_MOVES + SLANTS):
            self.assertEqual(self.check(field_moved(land, move)), self.check(land), (land, move))

    def test_slanted_twice_and_put_far_off(self):
        for land, first, second in itertools.product((CORNER, SLOPE, SQUARE, HEXAGON, bowl(5)), SLANTS, FAR_MOVES):
            there = field_moved(field_moved(land, first), second)
            self.assertEqual(self.check(there), self.check(land))

    def test_very_great_fields(self):
        for land, spans in zip(VERY_GREAT, (
            (0, FAR), (0, 2 * FAR), (1, FAR), (FAR, FAR), (2, FAR // 2 + 1), (2, 2 * FAR), (10 ** 199, 10 ** 199),
        ), strict=True):
            self.assertEqual(self.check(land), spans)

    def test_steps_go_with_the_figures(self):
        low, high = golden()
        far = (high, low, low, high - low, -high, low)
        self.assertEqual(within(1000, thin, SQUARE), thin(SQUARE))
        for land in (CORNER, SQUARE, HEXAGON, bowl(5)):
            there = field_moved(land, far)
            self.assertEqual(within(120000, thin, there), thin(there))
            self.assertEqual(self.check(there), self.check(land))
        for land in [[(0, 0), (high, low)], [(0, 0), (10 ** 199, 1)], [(0, 0), (1, 10 ** 199)]] + list(VERY_GREAT):
            self.assertEqual(within(80000, thin, land), thin(land))

    def test_two_hundred_corners(self):
        there = field_moved(bowl(200), FAR_MOVES[4])
        self.assertEqual(self.check(there), self.check(bowl(200)))


class KeepingTest(StakeCase):
    """[2]"""

    def test_nothing_handed_in_is_changed_and_the_same_is_told_again(self):
        for land in SOME:
            points = copy.deepcopy(land)
            told = (span(points, 3, -2), thin(points))
            self.assertEqual(points, land)
            self.assertEqual((span(list(land), 3, -2), thin(list(land))), told)


if __name__ == "__main__":
    unittest.main()
