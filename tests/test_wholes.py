"""Whole numbers: points [2], [4], [5]."""

import math
import unittest
from fractions import Fraction

from helping import golden, within
from stakefield.errors import NoNumber, StakeError
from stakefield.wholes import is_whole, row_sum, shares


class OwnInt(int):
    pass


class IsWholeTest(unittest.TestCase):
    """[2]: an int that is no truth."""

    def test_ints_are_whole(self):
        for thing in (0, 1, -1, 7, -12, 10 ** 199, -(10 ** 199), OwnInt(3)):
            with self.subTest(thing=thing):
                self.assertIs(is_whole(thing), True)

    def test_truths_are_not(self):
        self.assertIs(is_whole(True), False)
        self.assertIs(is_whole(False), False)

    def test_things_of_other_kinds_are_not(self):
        things = (
            None, 1.0, 0.0, float("nan"), 1j, Fraction(2, 1), "1", "", b"1", [], [1], (), (1,), {}, {1: 1},
            set(), frozenset(), range(3), object(), int, bool, len, lambda: 1, NotImplemented, ..., StakeError(1),
        )
        for thing in things:
            with self.subTest(thing=thing):
                self.assertIs(is_whole(thing), False)


class SharesTest(unittest.TestCase):
    """[4]"""

    def check(self, a, b):
        told = shares(a, b)
        self.assertIs(type(told), tuple)
        self.assertEqual([type(number) for number in told], [int, int, int])
        g, s, t = told
        self.assertEqual(g, math.gcd(a, b))
        self.assertEqual(s * a + t * b, g)
        if b == 0:
            self.assertEqual(t, 0)
            self.assertEqual(s, (a > 0) - (a < 0))
        else:
            self.assertGreaterEqual(s, 0)
            self.assertLess(s * g, abs(b))

    def test_all_small_numbers(self):
        for a in range(-30, 31):
            for b in range(-30, 31):
                with self.subTest(a=a, b=b):
                    self.check(a, b)

    def test_written_out(self):
        for a, b, told in (
            (0, 0, (0, 0, 0)), (5, 0, (5, 1, 0)), (-5, 0, (5, -1, 0)), (0, 5, (5, 0, 1)), (0, -5, (5, 0, -1)),
            (1, 1, (1, 0, 1)), (-1, -1, (1, 0, -1)), (7, 1, (1, 0, 1)), (7, -1, (1, 0, -1)), (4, 4, (4, 0, 1)),
            (3, 5, (1, 2, -1)), (-3, 5, (1, 3, 2)), (3, -5, (1, 2, 1)), (-3, -5, (1, 3, -2)),
            (12, 18, (6, 2, -1)), (1, 2, (1, 1, 0)), (9, 10, (1, 9, -8)),
        ):
            with self.subTest(a=a, b=b):
                self.assertEqual(shares(a, b), told)

    def test_sixty_figures(self):
        one = 123456789012345678901234567890123456789012345678901234567891
        other = 987654321098765432109876543210987654321098765432109876543210
        for a in (one, -one, one * 6, 10 ** 59):
            for b in (other, -other, other * 10, 10 ** 60 - 1, 2 * 10 ** 59):
                with self.subTest(a=a, b=b):
                    self.check(a, b)
                    self.check(b, a)

    def test_steps_go_with_the_figures(self):
        low, high = golden()
        self.assertEqual(within(12000, shares, low, high)[0], 1)
        self.assertEqual(within(12000, shares, 10 ** 199, 3), (1, 1, (1 - 10 ** 199) // 3))
        self.assertEqual(within(12000, shares, 3, 10 ** 199)[0], 1)


class RowSumTest(unittest.TestCase):
    """[5]"""

    def slowly(self, many, step, start, part):
        return sum((step * i + start) // part for i in range(many))

    def test_all_small_numbers(self):
        for many in range(0, 9):
            for step in range(-8, 9):
                for start in range(-8, 9):
                    for part in range(1, 8):
                        told = row_sum(many, step, start, part)
                        if told != self.slowly(many, step, start, part):
                            self.fail(f"row_sum({many}, {step}, {start}, {part}) told {told}")

    def test_longer_rows(self):
        for many, step, start, part in (
            (1000, 7, 3, 11), (1000, -7, -3, 11), (999, 377, -610, 987), (500, -10 ** 20, 10 ** 30, 10 ** 19 + 7),
            (777, 1, 0, 10 ** 40), (777, -1, -1, 10 ** 40), (640, 10 ** 50, -1, 1),
        ):
            with self.subTest(many=many, step=step, start=start, part=part):
                self.assertEqual(row_sum(many, step, start, part), self.slowly(many, step, start, part))

    def test_many_of_none_is_0(self):
        for step, start, part in ((0, 0, 1), (5, 7, 3), (-5, -7, 3), (10 ** 60, -10 ** 60, 1)):
            with self.subTest(step=step, start=start, part=part):
                self.assertEqual(row_sum(0, step, start, part), 0)

    def test_rounded_down_below_0(self):
        self.assertEqual(row_sum(1, 0, -1, 2), -1)
        self.assertEqual(row_sum(3, -1, 0, 2), -2)
        self.assertEqual(row_sum(4, -3, -1, 5), -6)

    def test_many_of_forty_figures_part_of_thirty(self):
        part = 10 ** 29 + 319
        many = 10 ** 10 * part
        self.assertEqual((len(str(part)), len(str(many))), (30, 40))
        for step in (1, 2, 10 ** 28 + 1, part - 1, -1, -(10 ** 28) - 1, 3 * 10 ** 45 + 2):
            if math.gcd(step, part) != 1:
                continue
            for start in (0, 1, -1, 7 * 10 ** 35 + 5, -10 ** 33):
                with self.subTest(step=step, start=start):
                    # Over each round of part all rests come up once, so what rounding takes away is known.
                    unrounded = step * (many * (many - 1) // 2) + start * many
                    rests = (many // part) * (part * (part - 1) // 2)
                    self.assertEqual((unrounded - rests) % part, 0)
                    told = within(5000, row_sum, many, step, start, part)
                    self.assertEqual(told, (unrounded - rests) // part)

    def test_steps_go_with_the_figures(self):
        low, high = golden()
        many = 10 ** 199
        first = within(15000, row_sum, many, low, 0, high)
        # What a row and the row below it come to together is known where no rest is 0.
        self.assertEqual(first + within(15000, row_sum, many, -low, 0, high), -(many - 1) + (many - 1) // high)

    def test_many_below_0_is_refused(self):
        for many in (-1, -2, -10 ** 60):
            with self.subTest(many=many):
                self.assert_no_number(many, 1, 1, 1)

    def test_part_below_1_is_refused(self):
        for part in (0, -1, -10 ** 60):
            for many in (0, 1, 5, -1):
                with self.subTest(part=part, many=many):
                    self.assert_no_number(many, 1, 1, part)

    def test_edges_that_are_not_refused(self):
        self.assertEqual(row_sum(0, 3, 3, 1), 0)
        self.assertEqual(row_sum(1, 3, 3, 1), 3)

    def assert_no_number(self, *given):
        with self.assertRaises(StakeError) as caught:
            row_sum(*given)
        self.assertIs(type(caught.exception), NoNumber)


if __name__ == "__main__":
    unittest.main()
