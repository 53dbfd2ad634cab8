"""Points told by stakes, and told back: points [21] and [22], and what points [2] and [3] say of them."""

import itertools
import unittest

from helping import FAR, FAR_MOVES, FIELDS, FORTY, HUNDRED, ONE_MORE, SIXTY, SQUARE, VERY_GREAT, StakeCase, golden
from helping import some_fields, walked, within
from stakefield.counts import count
from stakefield.errors import NoNumber, NotThere, TooMany
from stakefield.fields import field_moved, where
from stakefield.moves import moved
from stakefield.pieces import pieces
from stakefield.sums import fold
from stakefield.tellings import retold, told

SOME = [land for land in list(FIELDS) + some_fields(40, 3) if count(land) <= 100]
CORNER = [(0, 0), (1, 0), (0, 1)]


def added_up(pairs):
    return (sum(n * P[0] for P, n in pairs), sum(n * P[1] for P, n in pairs))


def margin(land):
    """The whole points up to 2 from the field's corners each way that lie outside."""
    xs, ys = [P[0] for P in land], [P[1] for P in land]
    near = itertools.product(range(min(xs) - 2, max(xs) + 3), range(min(ys) - 2, max(ys) + 3))
    return [P for P in near if where(land, P) == -1]


class ToldTest(StakeCase):
    """[21]"""

    def check(self, land, k, P, laid):
        """As the point asks of a list told, `laid` being the pieces told of the field; answers the list."""
        pairs = told(land, k, P)
        self.assertIs(type(pairs), list)
        self.assertEqual([(type(pair), len(pair)) for pair in pairs], [(tuple, 2)] * len(pairs))
        taken = [pair[0] for pair in pairs]
        numbers = [pair[1] for pair in pairs]
        self.assertEqual(taken, sorted(set(taken)), (land, k, P))
        self.assertTrue(any(set(taken) <= set(piece) for piece in laid), (land, k, P))
        self.assertTrue(all(type(n) is int and n > 0 for n in numbers), (land, k, P))
        self.assertEqual((sum(numbers), added_up(pairs)), (k, P), land)
        return pairs

    def test_written_out(self):
        slanted = [(0, 4), (6, 0)]
        middle = [(0, 0), (2, 1), (1, 2)]
        for land, k, P, pairs in (
            (CORNER, 1, (0, 0), [((0, 0), 1)]), (CORNER, 1, (0, 1), [((0, 1), 1)]), (CORNER, 3, (0, 0), [((0, 0), 3)]),
            (CORNER, 5, (2, 3), [((0, 1), 3), ((1, 0), 2)]), (CORNER, 5, (1, 0), [((0, 0), 4), ((1, 0), 1)]),
            (CORNER, 7, (2, 1), [((0, 0), 4), ((0, 1), 1), ((1, 0), 2)]), (middle, 1, (1, 1), [((1, 1), 1)]),
            (middle, 2, (2, 2), [((1, 1), 2)]), (middle, 3, (5, 4), [((1, 2), 1), ((2, 1), 2)]),
            (middle, 3, (4, 4), [((1, 1), 1), ((1, 2), 1), ((2, 1), 1)]), (slanted, 1, (3, 2), [((3, 2), 1)]),
            (slanted, 5, (9, 14), [((0, 4), 2), ((3, 2), 3)]), (slanted, 2, (6, 4), [((3, 2), 2)]),
            (slanted, 3, (15, 2), [((3, 2), 1), ((6, 0), 2)]), ([(3, -2)], 1, (3, -2), [((3, -2), 1)]),
            ([(3, -2)], 4, (12, -8), [((3, -2), 4)]), ([(0, 0)], 9, (0, 0), [((0, 0), 9)]),
        ):
            self.assertEqual(told(land, k, P), pairs, (land, k, P))

    def test_each_point_of_a_multiple(self):
        for land, k in itertools.product(SOME, range(4)):
            laid = pieces(land)
            points = walked(fold(land, k))
            self.assertEqual(len(points), count(land, k))
            for P in points:
                self.check(land, k, P, laid)

    def test_the_one_way_there_is(self):
        """[3]: of all ways to take k stakes of one piece the one that comes to the point."""
        for land, k in itertools.product(SOME[:20], range(4)):
            ways = {}
            for piece in pieces(land):
                for some in itertools.combinations_with_replacement(sorted(piece), k):
                    pairs = sorted((S, some.count(S)) for S in set(some))
                    ways.setdefault(added_up(pairs), []).append(pairs)
            for P in ways:
                pairs = told(land, k, P)
                self.assertTrue(all(way == pairs for way in ways[P]), (land, k, P))

    def test_a_stake_is_told_by_itself(self):
        for land in SOME:
            for S in walked(land):
                self.assertEqual(told(land, 1, S), [(S, 1)])
                self.assertEqual(told(land, FORTY, (FORTY * S[0], FORTY * S[1])), [(S, FORTY)])

    def test_points_outside_are_refused(self):
        for land, k in itertools.product(SOME[::2], range(3)):
            for P in margin(fold(land, k)):
                self.assert_refused(NotThere, told, land, k, P)

    def test_k_of_0(self):
        for land in SOME + list(HUNDRED) + [field_moved(SQUARE, move) for move in FAR_MOVES]:
            self.assertEqual(told(land, 0, (0, 0)), [])
            for P in ((1, 0), (0, -1), (-3, 5), (4, 4), (FAR, 0), land[0] if land[0] != (0, 0) else (7, 7)):
                self.assert_refused(NotThere, told, land, 0, P)

    def test_k_of_forty_figures(self):
        self.assertEqual(len(str(FORTY)), 40)
        for land in SOME:
            for piece in pieces(land)[::7]:
                for numbers in ((FORTY, 0, 0), (1, FORTY - 1, 0), (0, 2, FORTY), (FORTY // 3, 4, FORTY // 2), (5, FORTY, FORTY)):
                    for order in itertools.permutations(numbers[:len(piece)]):
                        pairs = sorted(pair for pair in zip(piece, order) if pair[1] > 0)
                        self.assertEqual(told(land, sum(order), added_up(pairs)), pairs, (land, pairs))

    def test_outside_by_one_alone_with_k_of_forty_figures(self):
        for k in (FORTY, FORTY + 1):
            self.assertEqual(told(CORNER, k, (k, 0)), [((1, 0), k)])
            self.assertEqual(told(SQUARE, k, (4 * k, 4 * k)), [((4, 4), k)])
            for P in ((k + 1, 0), (-1, 0), (0, -1), (k, 1), (k // 2, k - k // 2 + 1)):
                self.assert_refused(NotThere, told, CORNER, k, P)
            for P in ((4 * k + 1, 4 * k), (4 * k, 4 * k + 1), (-1, k), (k, -1)):
                self.assert_refused(NotThere, told, SQUARE, k, P)
            for P in ((3 * k, 2 * k + 1), (3, 4 * k - 1), (6 * k + 3, -2), (-3, 4 * k + 2), (6 * k, 4 * k)):
                self.assert_refused(NotThere, told, [(0, 4), (6, 0)], k, P)
            for P in ((3 * k, -2 * k + 1), (3 * k + 3, -2 * k - 2), (0, 0)):
                self.assert_refused(NotThere, told, [(3, -2)], k, P)

    def test_far_apart(self):
        for land, move in itertools.product(FIELDS, FAR_MOVES):
            there = field_moved(land, move)
            laid = pieces(there)
            for k in (1, 3, FORTY):
                points = [(k * land[0][0], k * land[0][1])]
                points += [(P[0] + (k - 1) * Q[0], P[1] + (k - 1) * Q[1]) for P in walked(land) for Q in land[-2:]]
                for P in points:
                    # Moved k-fold: what a move adds to a point it adds k times.
                    far = moved(P, move[:4] + (k * move[4], k * move[5]))
                    self.check(there, k, far, laid)

    def test_exactly_one_hundred_stakes(self):
        for land in HUNDRED:
            laid = pieces(land)
            for P in walked(land):
                self.assertEqual(told(land, 1, P), [(P, 1)])
                self.check(land, 2, (P[0] + land[0][0], P[1] + land[0][1]), laid)
            self.assertEqual(told(land, 0, (0, 0)), [])
            self.assert_refused(NotThere, told, land, 0, (1, 0))
            self.assert_refused(NotThere, told, land, 1, (-7, -7))

    def test_one_hundred_and_one_stakes_are_refused(self):
        for land in ONE_MORE:
            for k, P in ((1, land[0]), (0, (0, 0)), (0, (5, 5)), (1, (-7, -7)), (FORTY, (0, 0))):
                self.assert_refused(TooMany, told, land, k, P)

    def test_very_great_fields_are_refused_soon(self):
        for land, k in itertools.product(VERY_GREAT, (0, 1, FORTY)):
            for P in ((0, 0), land[0], (FAR * FAR, -5)):
                self.assert_refused(TooMany, within, 8000, told, land, k, P)

    def test_which_refusal_comes_first(self):
        for land, k in itertools.product(list(ONE_MORE) + list(VERY_GREAT) + SOME, (-1, -2, -FORTY)):
            for P in ((0, 0), (k * land[0][0], k * land[0][1]), (-7, -7)):
                self.assert_refused(NoNumber, within, 100, told, land, k, P)

    def test_steps_go_with_the_figures(self):
        low, high = golden()
        far = (high, low, low, high - low, -high, low)
        for land in (HUNDRED[0], HUNDRED[2], HUNDRED[5]):
            there = field_moved(land, far)
            last = there[-1]
            for k in (3, high):
                self.assertEqual(within(250000, told, there, k, (k * last[0], k * last[1])), [(last, k)])
                # With the last corner between it and the first one it is outside.
                outside = (k * (2 * last[0] - there[0][0]), k * (2 * last[1] - there[0][1]))
                self.assert_refused(NotThere, within, 250000, told, there, k, outside)


class RetoldTest(StakeCase):
    """[22]"""

    def test_written_out(self):
        for pairs, wanted in (
            ([], (0, (0, 0))), ([((3, -2), 1)], (1, (3, -2))), ([((3, -2), 4)], (4, (12, -8))), ([((3, -2), 0)], (0, (0, 0))),
            ([((3, -2), -1)], (-1, (-3, 2))), ([((0, 0), 5)], (5, (0, 0))), ([((1, 0), 2), ((0, 1), 3)], (5, (2, 3))),
            ([((1, 2), 2), ((1, 2), 2)], (4, (4, 8))), ([((1, 2), 2), ((1, 2), -2)], (0, (0, 0))),
            ([((1, 2), 3), ((5, 1), -1), ((1, 2), 1), ((9, 9), 0)], (3, (-1, 7))), ([((0, 7), -3), ((4, 0), 3)], (0, (12, -21))),
        ):
            self.assertEqual(retold(pairs), wanted)
            self.assertEqual(retold(pairs[::-1]), wanted)
            self.assertEqual((type(retold(pairs)), type(retold(pairs)[1])), (tuple, tuple))

    def test_great_numbers(self):
        self.assertEqual(retold([((SIXTY, -1), SIXTY), ((1, FAR), FAR)]), (SIXTY + FAR, (SIXTY ** 2 + FAR, FAR ** 2 - SIXTY)))
        self.assertEqual(retold([((FAR, 5), SIXTY), ((FAR, 5), -SIXTY)]), (0, (0, 0)))
        many = [((k, -k), 10 ** 199) for k in range(200)]
        self.assertEqual(within(3000, retold, many), (200 * 10 ** 199, (19900 * 10 ** 199, -19900 * 10 ** 199)))

    def test_of_what_is_told(self):
        for land, k in itertools.product(SOME[::3], (0, 1, 3)):
            for P in walked(fold(land, k)):
                self.assertEqual(retold(told(land, k, P)), (k, P))


class ListsTest(StakeCase):
    """[2]"""

    def test_lists_told_are_new_ones(self):
        for land in SOME:
            for k, P in ((0, (0, 0)), (1, land[0]), (2, (land[0][0] + land[-1][0], land[0][1] + land[-1][1]))):
                self.assert_new_list(told, list(land), k, P)

    def test_nothing_handed_in_is_changed(self):
        pairs = [((1, 2), 3), ((0, 0), 1), ((1, 2), -1)]
        kept = list(pairs)
        self.assertEqual(retold(pairs), retold(pairs))
        self.assertEqual(pairs, kept)


if __name__ == "__main__":
    unittest.main()
