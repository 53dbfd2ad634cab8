"""Moves: points [6], [7], [8]."""

import itertools
import math
import unittest

from helping import within
from stakefield.errors import NoMove, StakeError
from stakefield.fields import turn
from stakefield.moves import behind, is_move, level, moved, steps, way_back
from stakefield.wholes import shares

STAY = (1, 0, 0, 1, 0, 0)
FAR = 10 ** 30
MOVES = (
    STAY, (1, 0, 0, 1, 5, -7), (0, 1, 1, 0, 0, 0), (-1, 0, 0, 1, 2, 3), (0, -1, 1, 0, 1, 1), (2, 1, 1, 1, -3, 4),
    (2, 3, 1, 1, 9, 8), (1, 1000, 0, -1, 0, 5), (-5, 3, -2, 1, 0, -1), (FAR + 1, FAR, 1, 1, -FAR, FAR),
    (FAR, FAR + 1, 1, 1, FAR, 3),
)
POINTS = ((0, 0), (1, 0), (0, 1), (-1, -1), (3, -8), (FAR, -FAR), (-FAR - 7, 12))
NO_MOVES = (
    None, True, False, 0, 1, "", "100100", "move", 1.0, b"100100", [], {}, set(), (), object(), int, len,
    [1, 0, 0, 1, 0, 0], {1: 0, 2: 0, 3: 1, 4: 0, 5: 0, 6: 0}, range(6), "abcdef",
    (1,), (1, 0, 0, 1), (1, 0, 0, 1, 0), (1, 0, 0, 1, 0, 0, 0), ((1, 0), (0, 1), (0, 0)),
    (0, 0, 0, 0, 0, 0), (2, 0, 0, 1, 0, 0), (1, 1, 1, 1, 0, 0), (2, 1, 1, 2, 5, 5), (1, 2, 3, 4, 0, 0),
    (0, 2, 1, 0, 0, 0), (FAR, FAR, FAR, FAR + 1, 0, 0),
    (True, 0, 0, 1, 0, 0), (1, False, 0, 1, 0, 0), (1, 0, False, 1, 0, 0), (1, 0, 0, True, 0, 0),
    (1, 0, 0, 1, False, 0), (1, 0, 0, 1, 0, True), (1.0, 0, 0, 1, 0, 0), (1, 0, 0, 1, 0, 0.5),
    (1, 0, 0, 1, None, 0), (1, 0, 0, 1, 0, "0"), ("1", "0", "0", "1", "0", "0"), (1, 0, 0, 1, [], 0),
    (None, None, None, None, None, None), ((), (), (), (), (), ()),
)


class MoveCase(unittest.TestCase):
    def assert_no_move(self, deed, *given):
        with self.assertRaises(StakeError) as caught:
            deed(*given)
        self.assertIs(type(caught.exception), NoMove)


class IsMoveTest(MoveCase):
    """[6]: what a move is."""

    def test_moves_of_both_hands(self):
        for move in MOVES:
            with self.subTest(move=move):
                self.assertIs(is_move(move), True)

    def test_whatever_else_is_none(self):
        for thing in NO_MOVES:
            with self.subTest(thing=thing):
                self.assertIs(is_move(thing), False)

    def test_all_small_ones(self):
        for a, b, c, d in itertools.product(range(-3, 4), repeat=4):
            self.assertIs(is_move((a, b, c, d, 4, -9)), abs(a * d - b * c) == 1, (a, b, c, d))


class MovedTest(MoveCase):
    """[6]: where a move takes a point."""

    def test_written_out(self):
        self.assertEqual(moved((5, 7), (2, 3, 1, 1, 100, 1000)), (131, 1012))
        self.assertEqual(moved((5, 7), (2, 1, 1, 1, -3, 4)), (14, 16))
        self.assertEqual(moved((5, 7), (0, 1, 1, 0, 0, 0)), (7, 5))
        self.assertEqual(moved((5, 7), (1, 4, 0, -1, 0, 0)), (33, -7))
        self.assertEqual(moved((-2, 3), STAY), (-2, 3))

    def test_as_the_document_says(self):
        for move, place in itertools.product(MOVES, POINTS):
            a, b, c, d, e, f = move
            x, y = place
            told = moved(place, move)
            self.assertIs(type(told), tuple)
            self.assertEqual(told, (a * x + b * y + e, c * x + d * y + f))

    def test_what_is_no_move_is_refused(self):
        for thing in NO_MOVES:
            with self.subTest(thing=thing):
                self.assert_no_move(moved, (1, 2), thing)


class BehindTest(MoveCase):
    """[7]: the first, then the second."""

    def test_written_out(self):
        shift, swing = (1, 0, 0, 1, 5, 0), (0, -1, 1, 0, 0, 0)
        self.assertEqual(behind(shift, swing), (0, -1, 1, 0, 0, 5))
        self.assertEqual(behind(swing, shift), (0, -1, 1, 0, 5, 0))
        self.assertEqual(behind((1, 2, 0, 1, 3, 4), (1, 0, 5, -1, 6, 7)), (1, 2, 5, 9, 9, 18))

    def test_the_first_then_the_second(self):
        for first, second in itertools.product(MOVES, repeat=2):
            both = behind(first, second)
            self.assertIs(is_move(both), True)
            for place in POINTS:
                self.assertEqual(moved(place, both), moved(moved(place, first), second))

    def test_what_is_no_move_is_refused_on_either_side(self):
        for thing in NO_MOVES:
            with self.subTest(thing=thing):
                self.assert_no_move(behind, thing, STAY)
                self.assert_no_move(behind, STAY, thing)
                self.assert_no_move(behind, thing, thing)


class WayBackTest(MoveCase):
    """[7]: takes each point back."""

    def test_written_out(self):
        self.assertEqual(way_back((2, 1, 1, 1, -3, 4)), (1, -1, -1, 2, 7, -11))
        self.assertEqual(way_back((2, 3, 1, 1, 9, 8)), (-1, 3, 1, -2, -15, 7))

    def test_takes_each_point_back(self):
        for move in MOVES:
            back = way_back(move)
            self.assertIs(is_move(back), True)
            self.assertEqual(behind(move, back), STAY)
            self.assertEqual(behind(back, move), STAY)
            for place in POINTS:
                self.assertEqual(moved(moved(place, move), back), place)

    def test_what_is_no_move_is_refused(self):
        for thing in NO_MOVES:
            with self.subTest(thing=thing):
                self.assert_no_move(way_back, thing)


class StepsTest(MoveCase):
    """[8]: the steps from a point to another one."""

    def test_written_out(self):
        for one, other, told in (
            ((0, 0), (0, 0), 0), ((FAR, -3), (FAR, -3), 0), ((2, 3), (9, 3), 7), ((9, 3), (2, 3), 7),
            ((2, 3), (2, -5), 8), ((2, -5), (2, 3), 8), ((1, 1), (2, 2), 1), ((0, 0), (4, 6), 2),
            ((1, 2), (-11, 20), 6), ((0, 0), (-9, -6), 3), ((0, 0), (3, 7), 1),
            ((FAR, FAR), (-FAR, -FAR), 2 * FAR), ((0, 0), (FAR, FAR + 1), 1),
        ):
            with self.subTest(one=one, other=other):
                self.assertEqual(steps(one, other), told)

    def test_all_small_ones(self):
        for x, y in itertools.product(range(-9, 10), repeat=2):
            self.assertEqual(steps((4, -2), (x, y)), math.gcd(x - 4, y + 2), (x, y))

    def test_steps_run_go_with_the_figures(self):
        self.assertEqual(within(2000, steps, (0, 0), (FAR, FAR + 1)), 1)
        self.assertEqual(within(2000, steps, (-FAR, 5), (FAR, 5)), 2 * FAR)


class LevelTest(MoveCase):
    """[8]: the move that levels two points."""

    def check(self, one, other):
        move = level(one, other)
        self.assertIs(is_move(move), True)
        g = math.gcd(other[0] - one[0], other[1] - one[1])
        u, v = (other[0] - one[0]) // g, (other[1] - one[1]) // g
        told, s, t = shares(u, v)
        self.assertEqual(told, 1)
        for x, y in POINTS:
            wanted = (s * (x - one[0]) + t * (y - one[1]), u * (y - one[1]) - v * (x - one[0]))
            self.assertEqual(moved((x, y), move), wanted)
            self.assertEqual(turn((0, 0), (g, 0), wanted), turn(one, other, (x, y)))
        self.assertEqual(moved(one, move), (0, 0))
        self.assertEqual(moved(other, move), (g, 0))

    def test_written_out(self):
        self.assertEqual(level((0, 0), (5, 0)), (1, 0, 0, 1, 0, 0))
        self.assertEqual(level((5, 0), (0, 0)), (-1, 0, 0, -1, 5, 0))
        self.assertEqual(level((2, 3), (2, 9)), (0, 1, -1, 0, -3, 2))
        self.assertEqual(level((2, 9), (2, 3)), (0, -1, 1, 0, 9, -2))
        self.assertEqual(level((1, 2), (7, 12)), (2, -1, -5, 3, 0, -1))

    def test_all_small_ones(self):
        for x, y in itertools.product(range(-6, 7), repeat=2):
            if (x, y) != (1, -2):
                self.check((1, -2), (x, y))

    def test_far_apart(self):
        for one, other in (
            ((0, 0), (FAR, 0)), ((0, 0), (0, -FAR)), ((-FAR, FAR), (FAR, -FAR + 1)), ((FAR, 1), (1, FAR)),
            ((3, 4), (3 + 6 * FAR, 4 - 10 * FAR)),
        ):
            with self.subTest(one=one, other=other):
                self.check(one, other)
                within(4000, level, one, other)

    def test_a_point_and_itself_is_refused(self):
        for place in POINTS:
            with self.subTest(place=place):
                self.assert_no_move(level, place, place)
                self.assert_no_move(level, place, (place[0] + 0, place[1] + 0))


if __name__ == "__main__":
    unittest.main()
