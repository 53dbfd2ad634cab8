"""Chains, the way back and the other chain: points [23] to [25], and what point [2] says of them."""

import itertools
import math
import unittest

from helping import FAR, SIXTY, StakeCase, golden, within
from stakefield.chains import chain, other_chain, unchain
from stakefield.errors import NoNumber, TooMany

PAIRS = [(n, q) for n in range(1, 60) for q in range(n) if math.gcd(n, q) == 1]
LISTS = [list(some) for many in range(5) for some in itertools.product((2, 3, 4, 7), repeat=many)]
NO_CHAINS = (
    [1], [0], [-1], [-2], [2, 1], [1, 2], [3, 0, 3], [5, -7], [True], [2, False], [2, None], ["2"], [3, "x", 3], [2.0],
    [(2,)], [[2], 2], [2, []], [2] * 199 + [1], [1] + [2] * 199, [FAR, 1], [1, SIXTY], [-SIXTY], [FAR] * 120 + [0],
)


def by_the_words(n, q):
    """As the point tells it: begun with the least b that has b q at n or above, gone on with q and b q - n."""
    if (n, q) == (1, 0):
        return []
    b = next(b for b in itertools.count() if b * q >= n)
    return [b] + by_the_words(q, b * q - n)


def twos_behind(first, many):
    """The n and q whose chain has `first` ahead of so many twos."""
    return first * (many + 1) - many, many + 1


class ChainTest(StakeCase):
    """[23]"""

    def test_written_out(self):
        for n, q, told in (
            (1, 0, []), (2, 1, [2]), (3, 1, [3]), (3, 2, [2, 2]), (5, 2, [3, 2]), (5, 3, [2, 3]), (7, 5, [2, 2, 3]),
            (7, 3, [3, 2, 2]), (19, 7, [3, 4, 2]), (SIXTY, 1, [SIXTY]), (2 * SIXTY + 1, 2, [SIXTY + 1, 2]),
        ):
            self.assertEqual(chain(n, q), told)

    def test_by_the_words(self):
        for n, q in PAIRS:
            told = chain(n, q)
            self.assertEqual(told, by_the_words(n, q), (n, q))
            self.assertIs(type(told), list)
            self.assertTrue(all(type(b) is int and b > 1 for b in told))

    def test_what_has_no_chain_is_refused(self):
        for n, q in (
            (1, 1), (1, 2), (1, -1), (2, 0), (5, 0), (SIXTY, 0), (5, 5), (5, 6), (5, 11), (3, 4), (5, -1), (5, -2), (0, 0),
            (0, 1), (0, -1), (-1, 0), (-1, -2), (-5, 2), (-5, -7), (4, 2), (6, 4), (9, 6), (15, 10), (SIXTY, SIXTY),
            (SIXTY, SIXTY + 1), (3 * SIXTY, SIXTY), (7 * FAR, 7), (1, SIXTY),
        ):
            self.assert_refused(NoNumber, chain, n, q)

    def test_all_of_a_window(self):
        for n, q in itertools.product(range(-8, 30), range(-8, 30)):
            if (n, q) not in PAIRS:
                self.assert_refused(NoNumber, chain, n, q)

    def test_truths_are_no_whole_numbers(self):
        for n, q in ((True, 0), (1, False), (True, False), (2, True)):
            self.assert_refused(NoNumber, chain, n, q)

    def test_exactly_one_hundred_and_one_more(self):
        for pattern in ([2], [3], [2, 3], [5, 2], [7, 2, 2, 9], [FAR], [2, FAR + 1]):
            hundred = (pattern * 100)[:100]
            self.assertEqual(chain(*unchain(hundred)), hundred)
            self.assert_refused(TooMany, chain, *unchain(hundred + [2]))
            self.assert_refused(TooMany, chain, *unchain([9] + hundred))
        self.assertEqual(chain(101, 100), [2] * 100)
        self.assert_refused(TooMany, chain, 102, 101)
        self.assertEqual(chain(*twos_behind(8, 99)), [8] + [2] * 99)
        self.assert_refused(TooMany, chain, *twos_behind(8, 100))

    def test_sixty_figures_with_short_chains(self):
        for told in (
            [SIXTY], [SIXTY, 2], [2, SIXTY], [FAR, FAR + 7], [FAR, FAR - 1, FAR + 1],
            [10 ** 20, 2, 2, 10 ** 20, 3, 10 ** 19], [2] * 50 + [SIXTY] + [2] * 49,
        ):
            n, q = unchain(told)
            self.assertGreaterEqual(len(str(n)), 60)
            self.assertEqual(within(3000, chain, n, q), told)

    def test_sixty_figures_with_long_chains(self):
        for n, q in (
            (SIXTY, SIXTY - 1), (10 ** 59 + 1, 10 ** 59), twos_behind(2, SIXTY), twos_behind(3, SIXTY),
            twos_behind(SIXTY, SIXTY), unchain([5] * 90 + [2] * 11), (10 ** 199, 10 ** 199 - 1), golden()[::-1],
        ):
            self.assert_refused(TooMany, within, 12000, chain, n, q)

    def test_a_common_divisor_is_refused_ahead_of_too_many(self):
        for n, q in ((2 * SIXTY, 2 * SIXTY - 2), (3 * 102, 3 * 101), (7 * 10 ** 190, 7 * 10 ** 190 - 7)):
            self.assert_refused(NoNumber, chain, n, q)
        self.assert_refused(NoNumber, within, 12000, chain, 5 * golden()[1], 5 * golden()[0])


class UnchainTest(StakeCase):
    """[24]"""

    def test_written_out(self):
        for some, told in (
            ([], (1, 0)), ([2], (2, 1)), ([3], (3, 1)), ([2, 2], (3, 2)), ([3, 2], (5, 2)), ([2, 3], (5, 3)), ([2, 2, 3], (7, 5)),
            ([3, 4, 2], (19, 7)), ([SIXTY], (SIXTY, 1)), ([SIXTY, FAR], (SIXTY * FAR - 1, FAR)), ([2] * 200, (201, 200)),
        ):
            self.assertEqual(unchain(some), told)
            self.assertEqual([type(thing) for thing in (unchain(some),) + unchain(some)], [tuple, int, int])

    def test_there_and_back(self):
        for n, q in PAIRS:
            self.assertEqual(unchain(chain(n, q)), (n, q))
        for some in LISTS:
            self.assertEqual(chain(*unchain(some)), some)

    def test_just_one_list_for_each_two_numbers(self):
        self.assertEqual(len({unchain(some) for some in LISTS}), len(LISTS))

    def test_more_than_one_hundred(self):
        for some in ([2] * 101, [3] * 150, [2, 5] * 100, [SIXTY] * 200, [10 ** 199 + 1] * 200, [4] + [2] * 199):
            n, q = within(2000, unchain, some)
            self.assertTrue(0 < q < n and math.gcd(n, q) == 1)
            for b in some:
                self.assertEqual(b, -(-n // q))
                n, q = q, b * q - n
            self.assertEqual((n, q), (1, 0))

    def test_anything_else_is_refused(self):
        for some in NO_CHAINS:
            self.assert_refused(NoNumber, unchain, some)


class OtherChainTest(StakeCase):
    """[25]"""

    def test_written_out(self):
        for some, told in (
            ([], []), ([2], [2]), ([3], [2, 2]), ([2, 2], [3]), ([3, 2], [2, 3]), ([2, 2, 3], [4, 2]), ([4, 2], [2, 2, 3]),
            ([5, 2, 2], [2, 2, 2, 4]), ([101], [2] * 100), ([2] * 200, [201]), ([2] * 100, [101]),
        ):
            self.assertEqual(other_chain(some), told)

    def test_of_n_and_n_less_q(self):
        for n, q in PAIRS[1:]:
            told = other_chain(chain(n, q))
            self.assertEqual(told, by_the_words(n, n - q), (n, q))
            self.assertEqual(unchain(told), (n, n - q))

    def test_the_other_of_the_other(self):
        for some in LISTS:
            other = other_chain(some)
            self.assertEqual(other_chain(other), some)
            self.assertEqual(sum(b - 1 for b in some), sum(b - 1 for b in other))

    def test_exactly_one_hundred_and_one_more(self):
        # Each number b takes as many places of the other chain as it is above 2, and there is one more.
        for some in ([101], [2, 101], [51, 51, 2, 2, 3], [3] * 99, [2] * 50 + [3] * 99 + [2] * 51, [34, 35, 36]):
            self.assertEqual(sum(b - 2 for b in some), 99)
            told = other_chain(some)
            self.assertEqual((len(told), unchain(told)[0]), (100, unchain(some)[0]))
            self.assert_refused(TooMany, other_chain, some[:-1] + [some[-1] + 1])
            self.assert_refused(TooMany, other_chain, [some[0] + 1] + some[1:])

    def test_great_numbers_are_refused_soon(self):
        for some in (
            [102], [SIXTY], [2, SIXTY], [SIXTY, 2], [2] * 150 + [FAR], [3] * 200, [10 ** 199] * 200,
            [2] * 99 + [10 ** 199] + [2] * 100,
        ):
            self.assert_refused(TooMany, within, 4000, other_chain, some)

    def test_anything_else_is_refused(self):
        for some in NO_CHAINS:
            self.assert_refused(NoNumber, other_chain, some)
        for some in ([SIXTY, 1], [1, SIXTY], [3] * 199 + [True], [102, None], ["a", 102], [500, 0, 500]):
            self.assert_refused(NoNumber, other_chain, some)


class ListsTest(StakeCase):
    """[2]"""

    def test_lists_told_are_new_ones(self):
        for n, q in PAIRS[:60]:
            self.assert_new_list(chain, n, q)
        for some in LISTS[:60] + [[2] * 200]:
            self.assert_new_list(other_chain, list(some))

    def test_nothing_handed_in_is_changed(self):
        for some in LISTS[:60]:
            kept = list(some)
            self.assertEqual(unchain(some), unchain(some))
            self.assertEqual(some, kept)


if __name__ == "__main__":
    unittest.main()
