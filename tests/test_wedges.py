"""Wedges, their least points and turns, and points spread on them: points [26] to [28], and what point [2] says of them."""

import itertools
import math
import unittest

from helping import FAR, FAR_MOVES, MOVES, SIXTY, StakeCase, golden, within
from stakefield.chains import unchain
from stakefield.errors import NotThere, NoWedge, TooMany
from stakefield.moves import hand, turned
from stakefield.wedges import is_wedge, least, spread, turns

NEAR = list(itertools.product(range(-4, 5), range(-3, 4)))
SPREAD_ON = list(itertools.product(range(-7, 8), repeat=2))


def cross(P, Q):
    return P[0] * Q[1] - P[1] * Q[0]


def taken(b, P):
    return (b * P[0], b * P[1])


def added(P, Q):
    return (P[0] + Q[0], P[1] + Q[1])


def lies_in(u, v, P):
    """Of u and v at less than half a turn: P is made of them with no part below 0."""
    return cross(u, P) >= 0 and cross(P, v) >= 0


def wedge_of(some):
    """A wedge whose turns are to be the list."""
    n, q = unchain(some)
    return (1, 0), (-q, n)


def moved_wedge(u, v, move):
    """Both turned as the move does, in the order in which they make a wedge."""
    there = turned(u, move), turned(v, move)
    return there if hand(move) == 1 else there[::-1]


WEDGES = [(u, v) for u in NEAR for v in NEAR if math.gcd(*u) == 1 and math.gcd(*v) == 1 and cross(u, v) > 0]
# The last one's wedge has numbers of three thousand figures.
LISTS = ([], [2], [3], [SIXTY], [2, 2], [2, 5], [7, 2, 2, 3], [2, FAR, 4, FAR + 1], [2] * 99, [2] * 100, [3] * 100, [FAR] * 100)
TOO_LONG = ([2] * 101, [3] * 101, [FAR] * 101, [2] * 50 + [9] + [2] * 50, [FAR] + [2] * 150, [2] * 200)
VERY_LONG = (
    ((1, 0), (1, SIXTY)), ((1, 0), (1, 10 ** 199)), ((FAR, 1), (1, FAR)), ((1, -FAR), (1, FAR)),
    ((0, -1), (SIXTY, SIXTY - 1)),
)
NO_WEDGES = (
    ((1, 0), (1, 0)), ((1, 0), (-1, 0)), ((0, 1), (1, 0)), ((1, 0), (0, 0)), ((0, 0), (0, 1)), ((0, 0), (0, 0)), ((2, 0), (0, 1)),
    ((1, 0), (0, 2)), ((1, 0), (2, 4)), ((3, 6), (-1, 0)), ((3, 2), (-3, -2)), ((3, 2), (3, 2)), ((1, 0), (5, -3)),
    ((FAR - 1, FAR), (FAR, FAR + 1)), ((FAR, FAR), (0, 1)), ((1, 0), (2 * FAR, 2)), ((1, FAR), (-1, -FAR)), ((1, SIXTY), (1, 0)),
)


class IsWedgeTest(StakeCase):
    """[26]"""

    def test_written_out(self):
        for u, v in (
            ((1, 0), (0, 1)), ((1, 0), (-5, 1)), ((3, 2), (-3, -1)), ((0, -1), (1, 7)), ((FAR, FAR + 1), (FAR - 1, FAR)),
        ):
            self.assertIs(is_wedge(u, v), True)
            self.assertIs(is_wedge(v, u), False)
        for u, v in NO_WEDGES:
            self.assertIs(is_wedge(u, v), False)

    def test_all_of_a_window(self):
        for u, v in itertools.product(NEAR, repeat=2):
            self.assertIs(is_wedge(u, v), (u, v) in WEDGES, (u, v))

    def test_steps_go_with_the_figures(self):
        low, high = golden()
        self.assertIs(within(20000, is_wedge, (high, low), (low, high)), True)
        self.assertIs(within(20000, is_wedge, (low, high), (high, low)), False)


class LeastTest(StakeCase):
    """[27]"""

    def check(self, u, v):
        """The turns' rule; the points from u to v, turning to the left, neighbours with nothing between them."""
        row = least(u, v)
        bends = turns(u, v)
        self.assertEqual((type(row), type(bends)), (list, list))
        self.assertEqual((row[0], row[-1], len(row)), (u, v, len(bends) + 2))
        for before, P, after, b in zip(row, row[1:], row[2:], bends):
            self.assertEqual(added(before, after), taken(b, P))
            self.assertTrue(type(b) is int and b > 1)
        for P, Q in zip(row, row[1:]):
            self.assertEqual((cross(P, Q), type(P), len(P)), (1, tuple, 2))
        return row, bends

    def test_written_out(self):
        for u, v, row, bends in (
            ((1, 0), (0, 1), [(1, 0), (0, 1)], []), ((1, 0), (-9, 1), [(1, 0), (-9, 1)], []),
            ((2, 1), (1, 1), [(2, 1), (1, 1)], []), ((1, 0), (-1, 2), [(1, 0), (0, 1), (-1, 2)], [2]),
            ((1, 0), (1, 2), [(1, 0), (1, 1), (1, 2)], [2]), ((1, 0), (-1, 5), [(1, 0), (0, 1), (-1, 5)], [5]),
            ((1, 0), (2, 3), [(1, 0), (1, 1), (2, 3)], [3]), ((1, -1), (1, 1), [(1, -1), (1, 0), (1, 1)], [2]),
            ((1, 0), (-5, 7), [(1, 0), (0, 1), (-1, 2), (-2, 3), (-5, 7)], [2, 2, 3]),
            ((0, 1), (-3, -2), [(0, 1), (-1, 0), (-2, -1), (-3, -2)], [2, 2]),
            ((3, 1), (1, 2), [(3, 1), (2, 1), (1, 1), (1, 2)], [2, 3]),
            ((1, 0), (-1, SIXTY), [(1, 0), (0, 1), (-1, SIXTY)], [SIXTY]),
        ):
            self.assertEqual(self.check(u, v), (row, bends))

    def test_walking_through_windows(self):
        for u, v in WEDGES:
            # What goes further along u or v than these do is a sum of one of them and a point of the wedge;
            # all others are in the window, and what they are sums of is so too.
            near = [P for P in itertools.product(range(-9, 10), range(-7, 8)) if P != (0, 0) and lies_in(u, v, P)]
            small = {P for P in near if cross(P, v) <= cross(u, v) and cross(u, P) <= cross(u, v)}
            sums = {added(P, Q) for P, Q in itertools.combinations_with_replacement(sorted(small), 2)}
            row = self.check(u, v)[0]
            self.assertEqual(sorted(row), sorted(small - sums), (u, v))

    def test_turns_as_laid(self):
        for some in LISTS:
            u, v = wedge_of(some)
            for move in MOVES + FAR_MOVES:
                there = moved_wedge(u, v, move)
                wanted = some if hand(move) == 1 else some[::-1]
                self.assertEqual(self.check(*there)[1], wanted)

    def test_least_points_moved(self):
        for (u, v), move in itertools.product(WEDGES[::9], MOVES + FAR_MOVES):
            wanted = [turned(P, move) for P in least(u, v)]
            self.assertEqual(least(*moved_wedge(u, v, move)), wanted if hand(move) == 1 else wanted[::-1])

    def test_exactly_one_hundred_turns(self):
        row, bends = self.check((1, 0), (1, 101))
        self.assertEqual((row, bends), ([(1, k) for k in range(102)], [2] * 100))
        for some in ([2] * 100, [3] * 100, [2, 9] * 50, [FAR, 2] * 50):
            self.assertEqual(len(self.check(*wedge_of(some))[0]), 102)

    def test_one_hundred_and_one_turns_are_refused(self):
        for u, v in [((1, 0), (1, 102))] + [wedge_of(some) for some in TOO_LONG]:
            for move in MOVES[:3] + FAR_MOVES:
                there = moved_wedge(u, v, move)
                self.assertIs(is_wedge(*there), True)
                self.assert_refused(TooMany, least, *there)
                self.assert_refused(TooMany, turns, *there)

    def test_very_many_turns_are_refused_soon(self):
        for (u, v), deed in itertools.product(VERY_LONG, (least, turns)):
            self.assert_refused(TooMany, within, 12000, deed, u, v)

    def test_no_wedge_is_refused(self):
        for (u, v), deed in itertools.product(NO_WEDGES, (least, turns)):
            self.assert_refused(NoWedge, deed, u, v)
        for u, v in itertools.product(NEAR, repeat=2):
            if (u, v) not in WEDGES:
                self.assert_refused(NoWedge, least, u, v)
                self.assert_refused(NoWedge, turns, u, v)

    def test_steps_go_with_the_figures(self):
        low, high = golden()
        far = (high, low, low, high - low, 0, 0)
        for some in LISTS[:-1]:
            there = moved_wedge(*wedge_of(some), far)
            wanted = some if hand(far) == 1 else some[::-1]
            self.assertEqual(within(40000, turns, *there), wanted)
            self.assertEqual(len(within(60000, least, *there)), len(some) + 2)


class SpreadTest(StakeCase):
    """[28]"""

    def check(self, u, v, P, row):
        """As the point asks, `row` being the least points; answers the list."""
        pairs = spread(u, v, P)
        self.assertIs(type(pairs), list)
        self.assertTrue(all(type(pair) is tuple and type(pair[1]) is int and pair[1] > 0 for pair in pairs), (u, v, P))
        points = [pair[0] for pair in pairs]
        self.assertTrue(any(points == row[k:k + len(points)] for k in range(len(row))) and len(points) < 3, (u, v, P))
        place = (0, 0)
        for A, b in pairs:
            place = added(place, taken(b, A))
        self.assertEqual(place, P, (u, v))
        return pairs

    def test_written_out(self):
        u, v = (1, 0), (-5, 7)
        for P, told in (
            ((0, 0), []), (u, [(u, 1)]), (v, [(v, 1)]), ((0, 1), [((0, 1), 1)]), ((-2, 3), [((-2, 3), 1)]), ((4, 0), [(u, 4)]),
            ((-10, 14), [(v, 2)]), ((3, 7), [(u, 3), ((0, 1), 7)]), ((-1, 3), [((0, 1), 1), ((-1, 2), 1)]),
            ((-7, 10), [((-2, 3), 1), (v, 1)]), ((-9, 13), [((-2, 3), 2), (v, 1)]), ((-3, 5), [((-1, 2), 1), ((-2, 3), 1)]),
        ):
            self.assertEqual(spread(u, v, P), told)

    def test_all_of_a_window(self):
        for u, v in WEDGES[::5]:
            row = least(u, v)
            for P in SPREAD_ON:
                if lies_in(u, v, P):
                    self.check(u, v, P, row)
                else:
                    self.assert_refused(NotThere, spread, u, v, P)

    def test_the_one_way_there_is(self):
        for u, v in WEDGES[::7]:
            ways = {}
            row = least(u, v)
            for A, B in zip(row, row[1:]):
                for a, b in itertools.product(range(5), repeat=2):
                    P = added(taken(a, A), taken(b, B))
                    ways.setdefault(P, []).append([pair for pair in ((A, a), (B, b)) if pair[1] > 0])
            for P in ways:
                told = spread(u, v, P)
                self.assertTrue(all(way == told for way in ways[P]), (u, v, P))

    def test_the_tip_and_least_points(self):
        for some in LISTS:
            u, v = wedge_of(some)
            self.assertEqual(spread(u, v, (0, 0)), [])
            for P in least(u, v)[::9] + [u, v]:
                self.assertEqual(spread(u, v, P), [(P, 1)])
                self.assertEqual(spread(u, v, taken(SIXTY, P)), [(P, SIXTY)])

    def test_great_numbers(self):
        for some, move in itertools.product(LISTS, FAR_MOVES):
            u, v = moved_wedge(*wedge_of(some), move)
            row = least(u, v)
            numbers = ((1, 1), (SIXTY, 3), (1, SIXTY), (FAR, FAR + 1))
            for (A, B), (a, b) in itertools.product(list(zip(row, row[1:]))[::33], numbers):
                self.assertEqual(spread(u, v, added(taken(a, A), taken(b, B))), [(A, a), (B, b)])

    def test_points_outside_are_refused(self):
        for some in LISTS:
            u, v = wedge_of(some)
            for P in (
                taken(-1, u), taken(-1, v), taken(-SIXTY, v), added(taken(-1, u), taken(-1, v)), added(taken(FAR, u), (0, -1)),
                added(taken(FAR, v), (-1, 0)), added(u, taken(-1, v)), added(v, taken(-1, u)),
            ):
                self.assert_refused(NotThere, spread, u, v, P)

    def test_no_wedge_is_refused_first(self):
        for u, v in NO_WEDGES:
            for P in ((0, 0), u, v, added(u, v), (-7, -7), (7, -7), (-7, 7), (FAR, -SIXTY)):
                self.assert_refused(NoWedge, spread, u, v, P)

    def test_too_many_turns(self):
        for u, v in [wedge_of(some) for some in TOO_LONG] + list(VERY_LONG):
            for P in ((0, 0), u, v, added(u, v), taken(SIXTY, added(u, v)), added(taken(5, u), v)):
                self.assert_refused(TooMany, within, 20000, spread, u, v, P)
            for P in (taken(-1, u), taken(-1, v), taken(-1, added(u, v)), added(u, taken(-1, v)), added(v, taken(-SIXTY, u))):
                self.assert_refused(NotThere, within, 20000, spread, u, v, P)

    def test_steps_go_with_the_figures(self):
        low, high = golden()
        far = (high, low, low, high - low, 0, 0)
        for some in LISTS[:-1]:
            u, v = moved_wedge(*wedge_of(some), far)
            A, B = least(u, v)[-2:]
            self.assertEqual(within(80000, spread, u, v, added(taken(high, A), taken(low, B))), [(A, high), (B, low)])


class ListsTest(StakeCase):
    """[2]"""

    def test_lists_told_are_new_ones(self):
        for u, v in WEDGES[::11]:
            self.assert_new_list(least, u, v)
            self.assert_new_list(turns, u, v)
            for P in ((0, 0), u, added(u, taken(3, v))):
                self.assert_new_list(spread, u, v, P)


if __name__ == "__main__":
    unittest.main()
