"""Numbers, points and rows of points, read and written: point [35], and what point [2] says of them."""

import copy
import itertools
import unittest

from helping import FORTY, SIXTY, StakeCase
from stakefield.errors import NoText
from stakefield.texts import read_number, read_point, read_points, show_number, show_point, show_points

MOST = 10 ** 60 - 1
NUMBERS = (0, 1, -1, 7, 9, -9, 10, -10, 42, 100, -305, 1000000, FORTY, -FORTY, SIXTY, -SIXTY, 10 ** 59, -10 ** 59, MOST, -MOST)
POINTS = list(itertools.product(NUMBERS, NUMBERS))
# Figures of other scripts, a raised and a ringed one: Python's own int or isdigit take some of these.
OTHER_FIGURES = ("\u0663", "\u0967", "\uff15", "\u00b2", "\u2460", "\u00bd", "\u4e09", "\U0001d7d9")
NO_NUMBERS = (
    "", "-", "+", "--1", "-+1", "+1", "+0", "-0", "00", "-00", "007", "-007", "01", "-01", "0x1", "1_000", "1_0", "1.0", "1.",
    "1e3", "1,0", " ", " 1", "1 ", "1 2", "- 1", "-1 ", "\t1", "1\n", "\n1", "1\x00", "a", "one", "1a", "a1", "1-", "1-2", "5-",
    "\u22121", "\u20121", "None", "True", "1" * 61, "-" + "1" * 61, "0" * 60, "0" + "1" * 59, "-0" + "1" * 59, "9" * 20000,
) + OTHER_FIGURES + tuple("1" + sign for sign in OTHER_FIGURES) + tuple(sign + "1" for sign in OTHER_FIGURES)
NO_TEXTS = (
    None, 0, 5, -5, True, False, 1.5, [], ["1"], ["1,2"], (), (1, 2), ("1", "2"), [(1, 2)], {}, {"1": "2"}, {"1"}, b"1", b"1,2",
    bytearray(b"1"), object(), str, Ellipsis,
)


class NumberTest(StakeCase):
    def test_written_out(self):
        for text, number in (
            ("0", 0), ("1", 1), ("9", 9), ("-1", -1), ("-9", -9), ("10", 10), ("-10", -10), ("1000", 1000), ("-907", -907),
            ("1" + "0" * 59, 10 ** 59), ("-1" + "0" * 59, -10 ** 59), ("9" * 60, MOST), ("-" + "9" * 60, -MOST),
            ("123456789012345678901234567890123456789012345678901234567891", SIXTY),
        ):
            self.assertEqual(read_number(text), number)
            self.assertIs(type(read_number(text)), int)
            self.assertEqual(show_number(number), text)
            self.assertIs(type(show_number(number)), str)

    def test_written_is_read_to_the_same(self):
        for number in list(NUMBERS) + list(range(-1100, 1101)):
            self.assertEqual(read_number(show_number(number)), number)

    def test_refused(self):
        for text in NO_NUMBERS:
            self.assert_refused(NoText, read_number, text)

    def test_what_is_no_text_is_refused(self):
        for thing in NO_TEXTS:
            self.assert_refused(NoText, read_number, thing)

    def test_each_text_of_three_signs(self):
        for many in range(4):
            for signs in itertools.product("019-+ ,", repeat=many):
                text = "".join(signs)
                figures = text[1:] if text[:1] == "-" else text
                fine = figures != "" and set(figures) <= set("019") and (figures[0] != "0" or text == "0")
                if fine:
                    self.assertEqual(read_number(text), int(text))
                else:
                    self.assert_refused(NoText, read_number, text)

    def test_no_other_sign_is_a_figure(self):
        for code in range(0x3000):
            if chr(code) not in "0123456789":
                self.assert_refused(NoText, read_number, chr(code))
                self.assert_refused(NoText, read_number, "1" + chr(code))

    def test_as_many_figures_as_needed(self):
        """The desk's answers may have more than sixty."""
        self.assertEqual(show_number(10 ** 300), "1" + "0" * 300)
        self.assertEqual(show_number(-10 ** 300), "-1" + "0" * 300)


class PointTest(StakeCase):
    def test_written_out(self):
        for text, P in (
            ("0,0", (0, 0)), ("1,2", (1, 2)), ("-1,20", (-1, 20)), ("30,-4", (30, -4)), ("-5,-6", (-5, -6)),
            ("9" * 60 + ",-" + "9" * 60, (MOST, -MOST)),
        ):
            self.assertEqual(read_point(text), P)
            self.assertEqual([type(read_point(text))] + [type(number) for number in read_point(text)], [tuple, int, int])
            self.assertEqual(show_point(P), text)
            self.assertIs(type(show_point(P)), str)

    def test_written_is_read_to_the_same(self):
        for P in POINTS:
            self.assertEqual(read_point(show_point(P)), P)

    def test_refused(self):
        for text in (
            "", ",", "1", "12", "1,", ",1", "1,2,", ",1,2", "1,2,3", "1,,2", ",,", "1, 2", "1 ,2", " 1,2", "1,2 ", "1 2", "1;2",
            "1.2", "(1,2)", "1,2 3,4", "1,2\n", "\t1,2", "+1,2", "1,+2", "-0,1", "1,-0", "00,1", "1,01", "a,b", "1,b", "a,2",
            "1\uff0c2", "1" * 61 + ",1", "1," + "1" * 61, "--1,2", "," * 20000,
        ):
            self.assert_refused(NoText, read_point, text)

    def test_each_of_its_numbers_is_to_be_one(self):
        for text in NO_NUMBERS:
            self.assert_refused(NoText, read_point, text + ",1")
            self.assert_refused(NoText, read_point, "1," + text)

    def test_what_is_no_text_is_refused(self):
        for thing in NO_TEXTS:
            self.assert_refused(NoText, read_point, thing)


class PointsTest(StakeCase):
    def test_written_out(self):
        for text, points in (
            ("0,0", [(0, 0)]), ("1,2 3,4", [(1, 2), (3, 4)]), ("5,5 -1,0 5,5", [(5, 5), (-1, 0), (5, 5)]),
            ("0,-1 0,1 7,7 -2,-2", [(0, -1), (0, 1), (7, 7), (-2, -2)]),
        ):
            self.assertEqual(read_points(text), points)
            self.assertIs(type(read_points(text)), list)
            self.assertEqual(show_points(points), text)
            self.assertIs(type(show_points(points)), str)

    def test_one_to_sixty(self):
        for many in range(1, 61):
            points = POINTS[many:2 * many]
            self.assertEqual(read_points(show_points(points)), points)
            self.assertEqual(read_points(" ".join(["3,-4"] * many)), [(3, -4)] * many)

    def test_as_long_as_they_may_be(self):
        points = [(-MOST, -MOST)] * 60
        self.assertEqual(len(show_points(points)), 60 * 123 + 59)
        self.assertEqual(read_points(show_points(points)), points)

    def test_more_than_sixty_are_refused(self):
        for many in (61, 62, 100, 5000):
            self.assert_refused(NoText, read_points, " ".join(["3,4"] * many))

    def test_refused(self):
        for text in (
            "", " ", "  ", ",", "1", "1,2  3,4", " 1,2", "1,2 ", " 1,2 3,4", "1,2 3,4 ", "1,2 3", "1 2,3", "1,2,3 4,5",
            "1,2;3,4", "1,2\t3,4", "1,2\n3,4", "1,2\u00a03,4", "1,2, 3,4", "1, 2", "1,2 x", "1,2 3,04", "-0,1 1,1",
            "1,2 3,4 5,+6", "1,2 3," + "1" * 61, "[(1, 2)]",
        ):
            self.assert_refused(NoText, read_points, text)

    def test_each_of_them_is_to_be_a_point(self):
        for text in NO_NUMBERS:
            self.assert_refused(NoText, read_points, "1,1 " + text + ",1 2,2")
            self.assert_refused(NoText, read_points, "1," + text + " 2,2")
        for place in range(60):
            words = ["1,1"] * 60
            words[place] = "1,1,1"
            self.assert_refused(NoText, read_points, " ".join(words))

    def test_what_is_no_text_is_refused(self):
        for thing in NO_TEXTS:
            self.assert_refused(NoText, read_points, thing)


class KeepingTest(StakeCase):
    """[2]"""

    def test_lists_told_are_new_ones(self):
        for text in ("0,0", "1,2 3,4", "1,1 1,1"):
            self.assert_new_list(read_points, text)

    def test_nothing_handed_in_is_changed(self):
        points = POINTS[5:40]
        kept = copy.deepcopy(points)
        self.assertEqual(show_points(points), show_points(points))
        self.assertEqual(points, kept)
        things = [[], ["1"], {"1": "2"}]
        for thing in things:
            self.assert_refused(NoText, read_points, thing)
        self.assertEqual(things, [[], ["1"], {"1": "2"}])


if __name__ == "__main__":
    unittest.main()
