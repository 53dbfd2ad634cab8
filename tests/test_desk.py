"""The desk: point [36], and what point [2] says of it."""

import itertools
import unittest

from helping import CORNER, FAR, FAR_MOVES, FIELDS, FORTY, HEARTS, HUNDRED, MOVES, ONE_MORE, SIXTY, SLANTS, SLOPE, SQUARE
from helping import StakeCase, VERY_GREAT, bowl, desk_with, some_fields, window, within
from stakefield.columns import share
from stakefield.counts import count, inner_count
from stakefield.desk import Desk
from stakefield.errors import NoHeart, NoMove, NoName, NoNumber, NoRow, NoText, NotThere, TooGreat, TooMany
from stakefield.fields import double_area, field, field_moved, is_field, rim, where
from stakefield.forms import alike, form
from stakefield.hearts import facing
from stakefield.sums import fold, mixed, together
from stakefield.tellings import told
from stakefield.texts import read_points, show_points
from stakefield.thin import span, thin

MOST = 10 ** 60 - 1
SOME = list(FIELDS) + list(HEARTS[::5]) + some_fields(20, 4)
# One row of each kind, all of which are answered where `a`, a heart, and `b` stand.
ROWS = (
    "field n 0,0", "field n 0,0 4,0 0,4", "move n a 0 1 1 0 5 -6", "fold n a 2", "sum n a b", "form n a", "facing n a",
    "drop a", "names", "show a", "area a", "rim a", "count a 2", "inner a 2", "mixed a b", "share a 1 2 3", "where a 0,0",
    "tell a 2 0,0", "alike a b", "thin a",
)
NO_NAMES = (
    "", "A", "aB", "Ab", "a1", "1", "a_b", "a-b", "a.b", "a,b", "0,0", "NEW", "abcdefghi", "abcdefghijklmnopq", "\u00e4",
    "\u00df", "\u0430", "a\u0301", "\uff41", "`", "{", "a\n", "a\t", "\u00aa",
)
NO_NUMBERS = ("", "x", "+1", "-0", "01", "1.0", "1,1", "1" * 61, "\u0663", "a", "2\n")
NO_POINTS = ("", "x", "1", "1,", ",1", "1,2,3", "1,-0", "01,1", "1;2", "(1,2)", "1," + "1" * 61, "\u0663,1", "a", "0,0\n")


def set_row(name, land):
    return "field " + name + " " + show_points(land)


def all_that_stands(desk):
    return [(name, desk.say("show " + name)) for name in desk.say("names").split()]


class DeskCase(StakeCase):
    def setUp(self):
        self.desk = desk_with(HEARTS[5], SQUARE)

    def assert_says(self, row, answer, desk=None):
        said = (desk or self.desk).say(row)
        self.assertIs(type(said), str)
        self.assertEqual(said, answer, row[:100])

    def assert_row_refused(self, own, row, desk=None):
        """Refused with the class `own`, and all stands as before."""
        desk = desk or self.desk
        before = all_that_stands(desk)
        self.assert_refused(own, desk.say, row)
        self.assertEqual(all_that_stands(desk), before)


class AnswersTest(DeskCase):
    """Each kind of row, with its answer."""

    def test_written_out(self):
        desk = Desk()
        for row, answer in (
            ("names", ""), ("field land 4,0 2,1 0,0 0,4 2,0", "ok"), ("show land", "0,0 4,0 0,4"), ("area land", "16"),
            ("rim land", "12"), ("count land 1", "15"), ("count land 3", "91"), ("count land 0", "1"), ("inner land 3", "55"),
            ("inner land 0", "0"), ("share land 3 5 11", "8"), ("share land 0 0 -1", "0"), ("share land 0 0 0", "15"),
            ("where land 1,1", "in"), ("where land 4,0", "on"), ("where land 1,3", "on"), ("where land 3,3", "out"),
            ("move far land 0 1 1 0 5 -1", "ok"), ("show far", "5,-1 9,-1 5,3"), ("fold big land 3", "ok"),
            ("show big", "0,0 12,0 0,12"), ("fold back land -1", "ok"), ("show back", "-4,0 0,-4 0,0"),
            ("fold nil land 0", "ok"), ("show nil", "0,0"), ("field way 1,1 0,0", "ok"), ("show way", "0,0 1,1"),
            ("sum both land way", "ok"), ("show both", "0,0 4,0 5,1 1,5 0,4"), ("mixed land way", "16"),
            ("field slope 0,0 3,0 0,2", "ok"), ("form s slope", "ok"), ("show s", "0,0 1,0 3,6"),
            ("field h -1,-1 1,0 0,1", "ok"), ("facing fh h", "ok"), ("show fh", "-2,1 1,-2 1,1"),
            ("names", "back big both far fh h land nil s slope way"), ("drop big", "ok"), ("drop back", "ok"),
            ("names", "both far fh h land nil s slope way"), ("field t 0,0 2,0 0,1", "ok"),
            ("tell t 5 3,3", "0,1*3 1,0*1 2,0*1"), ("tell t 0 0,0", "none"), ("tell t 1 2,0", "2,0*1"),
            ("tell way 3 1,1", "0,0*2 1,1*1"), ("tell nil 7 0,0", "0,0*7"), ("field r 5,0 7,0 5,3", "ok"),
            ("alike slope r", "0 1 1 0 5 0"), ("alike slope land", "no"), ("alike slope slope", "1 0 0 1 0 0"),
            ("alike nil way", "no"), ("field one 3,4", "ok"), ("field two 0,9", "ok"), ("alike one two", "1 0 0 1 -3 5"),
        ):
            self.assert_says(row, answer, desk)
        self.assertEqual(desk.say("thin t").split(" ")[0], "1")
        self.assertEqual(desk.say("thin slope").split(" ")[0], "2")
        self.assertEqual(desk.say("thin way").split(" ")[0], "0")

    def test_numbers_as_the_functions_tell(self):
        for land, other in zip(SOME, SOME[3:] + SOME[:3]):
            desk = desk_with(land, other)
            self.assert_says("area a", str(double_area(land)), desk)
            self.assert_says("rim a", str(rim(land)), desk)
            self.assert_says("mixed a b", str(mixed(land, other)), desk)
            for k in (0, 1, 2, 3, FORTY):
                self.assert_says(f"count a {k}", str(count(land, k)), desk)
                self.assert_says(f"inner a {k}", str(inner_count(land, k)), desk)
            for a, b, c in itertools.product((-2, 0, 3), (-1, 0, 2), (-FAR, -3, 0, 4, FAR)):
                self.assert_says(f"share a {a} {b} {c}", str(share(land, a, b, c)), desk)

    def test_new_fields_as_the_functions_tell(self):
        for land, other in zip(SOME, SOME[3:] + SOME[:3]):
            desk = desk_with(land, other)
            wanted = [(f"fold n a {k}", fold(land, k)) for k in (-3, 0, 1, 2, FORTY)]
            wanted += [("sum n a b", together(land, other)), ("sum n b a", together(land, other)), ("sum n a a", fold(land, 2))]
            wanted += [("form n a", form(land)), ("form n b", form(other))]
            wanted += [(f"move n a {' '.join(map(str, move))}", field_moved(land, move)) for move in MOVES + FAR_MOVES[:4]]
            for row, told_field in wanted:
                self.assert_says(row, "ok", desk)
                self.assert_says("show n", show_points(told_field), desk)
                self.assert_says("show a", show_points(land), desk)
                self.assert_says("names", "a b n", desk)

    def test_field_and_show(self):
        for points in ([(5, 5)] * 3, SQUARE[::-1], [(2, 2), (0, 0), (1, 1)], window(SQUARE), bowl(60), bowl(60)[::-1]):
            self.assert_says(set_row("n", points), "ok")
            self.assert_says("show n", show_points(field(points)))
            self.assertIs(is_field(read_points(self.desk.say("show n"))), True)

    def test_facing(self):
        for land in HEARTS:
            desk = desk_with(land)
            self.assert_says("facing f a", "ok", desk)
            self.assert_says("show f", show_points(facing(land)), desk)
            self.assert_says("facing f f", "ok", desk)
            self.assert_says("show f", show_points(land), desk)

    def test_where(self):
        for land in SOME:
            desk = desk_with(land)
            for x, y in window([(-4, -4), (6, 6)])[::3] + [(FAR, -SIXTY), land[0]]:
                self.assert_says(f"where a {x},{y}", {1: "in", 0: "on", -1: "out"}[where(land, (x, y))], desk)

    def test_tell(self):
        for land in SOME:
            desk = desk_with(land)
            for k in range(4):
                for x, y in window(fold(land, k))[::2]:
                    if where(fold(land, k), (x, y)) < 0:
                        self.assert_row_refused(NotThere, f"tell a {k} {x},{y}", desk)
                        continue
                    pairs = told(land, k, (x, y))
                    wanted = " ".join([f"{P[0]},{P[1]}*{times}" for P, times in pairs]) or "none"
                    self.assert_says(f"tell a {k} {x},{y}", wanted, desk)

    def test_alike(self):
        for land, other in itertools.product(SOME, SOME[::3]):
            desk = desk_with(land, other)
            move = alike(land, other)
            self.assert_says("alike a b", "no" if move is None else " ".join(map(str, move)), desk)
        for land, move in itertools.product(SOME, SLANTS):
            there = field_moved(land, move)
            desk = desk_with(land, there)
            self.assert_says("alike a b", " ".join(map(str, alike(land, there))), desk)
            self.assert_says("alike b a", " ".join(map(str, alike(there, land))), desk)

    def test_thin(self):
        for land, move in itertools.product(SOME, MOVES[:1] + SLANTS):
            there = field_moved(land, move)
            first = thin(there)[0]
            self.assert_says("thin a", f"{span(there, first[0], first[1])} {first[0]},{first[1]}", desk_with(there))

    def test_names(self):
        desk = Desk()
        self.assert_says("names", "", desk)
        names = ["b", "a", "zzzzzzzz", "ab", "aa", "z", "names", "ok", "abcdefgh", "field"]
        for many, name in enumerate(names):
            self.assert_says(f"field {name} {many},0", "ok", desk)
            self.assert_says("names", " ".join(sorted(names[:many + 1])), desk)
        for many, name in enumerate(names):
            self.assert_says(f"show {name}", f"{many},0", desk)
        for many, name in enumerate(names):
            self.assert_says(f"drop {name}", "ok", desk)
            self.assert_says("names", " ".join(sorted(names[many + 1:])), desk)
            self.assert_row_refused(NoName, f"show {name}", desk)
            self.assert_row_refused(NoName, f"drop {name}", desk)
        self.assert_says("field b 1,1", "ok", desk)
        self.assert_says("names", "b", desk)

    def test_asked_again_the_same(self):
        for row in [row for row in ROWS if row[:4] != "drop"]:
            self.assertEqual(self.desk.say(row), self.desk.say(row))

    def test_answers_of_more_than_sixty_figures(self):
        triangle, line = [(0, 0), (MOST, 0), (0, MOST)], [(-MOST, -MOST), (MOST, MOST)]
        desk = desk_with(triangle, line)
        for row, answer in (
            ("area a", MOST ** 2), ("rim a", 3 * MOST), (f"count a {MOST}", count(triangle, MOST)),
            (f"inner a {MOST}", inner_count(triangle, MOST)), ("mixed a b", mixed(triangle, line)),
            (f"share a {MOST} 1 {MOST * MOST % 10 ** 59}", share(triangle, MOST, 1, MOST * MOST % 10 ** 59)),
            ("share a 1 1 " + "9" * 60, (MOST + 1) * (MOST + 2) // 2),
        ):
            self.assert_says(row, str(answer), desk)
        self.assertEqual(len(desk.say("area a")), 120)
        self.assertEqual(len(desk.say(f"count a {MOST}")), 240)

    def test_moves_of_more_than_sixty_figures(self):
        far = MOST // 4
        desk = desk_with(field_moved(SLOPE, (1, far, 0, 1, 0, 0)), field_moved(SLOPE, (1, 0, far, 1, 0, 0)))
        self.assert_says("alike a b", f"1 {-far} {far} {1 - far * far} 0 0", desk)
        self.assert_says("alike b a", f"{1 - far * far} {far} {-far} 1 0 0", desk)

    def test_told_of_sixty_figures(self):
        desk = desk_with(CORNER, [(0, 0), (MOST, MOST - 1)])
        self.assert_says(f"tell a {MOST} {MOST - 2},1", f"0,0*1 0,1*1 1,0*{MOST - 2}", desk)
        self.assert_says(f"tell b 1 {MOST},{MOST - 1}", f"{MOST},{MOST - 1}*1", desk)


class RowsTest(DeskCase):
    """Rows whose first word or count of words is not as listed."""

    def test_each_row_is_answered(self):
        for row in ROWS:
            self.assertIs(type(desk_with(HEARTS[5], SQUARE).say(row)), str)

    def test_what_is_no_text(self):
        for thing in (
            None, 0, 7, True, 1.5, [], ["names"], ("names",), {}, {"names": 1}, {"names"}, b"names", bytearray(b"names"),
            object(), str,
        ):
            self.assert_row_refused(NoRow, thing)

    def test_first_words_that_are_none(self):
        for row in (
            "", " ", "  ", "x", "Names", "NAMES", "name", "namess", "names\n", "names\t", "\nnames", "names,", "ok", "a", "a b",
            "0,0", "fields a 0,0", "Field n 0,0", "points a", "inner_count a 1", "together n a b", "told a 1 0,0",
            "double_area a", "turn a", "stakes a", "pieces a", "columns a 0 1", "span a 1 0", "to_form a", "is_heart a",
            "heart a", "say names", "none", "names\u0301", "\uff4eames", "NEW a", "ONE",
        ):
            self.assert_row_refused(NoRow, row)

    def test_a_word_too_few(self):
        for row in ROWS:
            if row != "names":
                shorter = row.split(" ")[:-1]
                for many in range(1, len(shorter) + 1):
                    if not (shorter[0] == "field" and many > 2):
                        self.assert_row_refused(NoRow, " ".join(shorter[:many]))

    def test_a_word_too_many(self):
        for row, more in itertools.product(ROWS, ("a", "b", "0", "0,0", "1 2", "x", "")):
            if not row.startswith("field"):
                self.assert_row_refused(NoRow, row + " " + more)

    def test_blanks_at_the_ends(self):
        for row in ROWS:
            self.assert_row_refused(NoRow, " " + row)
            self.assert_row_refused(NoRow, "  " + row)
            self.assert_row_refused(NoText if row.startswith("field") else NoRow, row + " ")
            self.assert_row_refused(NoText if row.startswith("field") else NoRow, row + "  ")

    def test_two_blanks_together(self):
        for row in ROWS:
            words = row.split(" ")
            for k in range(1, len(words)):
                wider = " ".join(words[:k]) + "  " + " ".join(words[k:])
                own = NoRow
                if words[0] == "field":
                    own = NoName if k == 1 else NoText
                self.assert_row_refused(own, wider)

    def test_a_word_without_signs_in_the_place_of_another(self):
        for row, own in (
            ("show ", NoName), ("count  1", NoName), ("count a ", NoText), ("where a ", NoText), ("field n ", NoText),
            ("field  0,0", NoName), ("sum n a ", NoName), ("sum n  b", NoName), ("sum  a b", NoName), ("share a 1  3", NoText),
            ("tell a  0,0", NoText), ("", NoRow),
        ):
            self.assert_row_refused(own, row)

    def test_other_signs_are_no_blanks(self):
        for row in ("show\ta", "show\na", "show\u00a0a", "show\u2003a"):
            self.assert_row_refused(NoRow, row)
        for row in ("show a\n", "show \ta", "count a\t1 2"):
            self.assert_row_refused(NoName, row)
        for row in ("count a 1\n", "where a 0,0\n", "field n 0,0\t1,1", "field n 0,0\n"):
            self.assert_row_refused(NoText, row)

    def test_one_to_sixty_points(self):
        for many in (1, 2, 59, 60):
            self.assert_says(set_row("n", bowl(many)), "ok")
            self.assert_says("show n", show_points(bowl(many)))
        for many in (61, 62, 100, 1000):
            self.assert_row_refused(NoRow, set_row("n", bowl(many)))
            self.assert_row_refused(NoRow, "field n" + " 0,0" * many)
        self.assert_row_refused(NoRow, "field n")
        self.assert_row_refused(NoRow, "field")
        self.assert_row_refused(NoRow, "field N")
        self.assert_row_refused(NoRow, "field N" + " x" * 61)
        self.assert_row_refused(NoName, "field N" + " x" * 60)
        self.assert_row_refused(NoText, "field n" + " 0,0" * 59 + " x")
        self.assert_row_refused(NoText, "field n" + " 0,0" * 59 + " ")


class NamesTest(DeskCase):
    """Words that are no names, and names by which no field stands."""

    def test_one_to_eight_small_letters(self):
        for name in ("a", "z", "ab", "abcdefg", "abcdefgh", "zzzzzzzz", "field", "names", "none", "no", "ok", "in"):
            for row in (f"field {name} 1,2", f"fold {name} {name} 3", f"form {name} {name}", f"sum {name} {name} {name}"):
                self.assert_says(row, "ok")
            self.assert_says(f"show {name}", "0,0")
            self.assert_says(f"drop {name}", "ok")

    def test_all_letters(self):
        for letter in "abcdefghijklmnopqrstuvwxyz":
            self.assert_says(f"field {letter} 1,2", "ok")

    def test_what_is_no_name(self):
        for word in NO_NAMES:
            for row in ROWS:
                words = row.split(" ")
                for k in range(1, len(words)):
                    if words[k] in ("n", "a", "b"):
                        self.assert_row_refused(NoName, " ".join(words[:k] + [word] + words[k + 1:]))

    def test_names_by_which_no_field_stands(self):
        for word in ("c", "n", "aa", "ab", "zzzzzzzz", "names"):
            for row in ROWS:
                words = row.split(" ")
                for k in range(1, len(words)):
                    if words[k] in ("a", "b"):
                        self.assert_row_refused(NoName, " ".join(words[:k] + [word] + words[k + 1:]))

    def test_no_row_makes_a_name_stand_by_asking(self):
        desk = Desk()
        for row in ROWS[2:]:
            if row != "names":
                self.assert_row_refused(NoName, row, desk)
        self.assert_says("names", "", desk)


class WordsTest(DeskCase):
    """Words that are no numbers or no points."""

    def test_what_is_no_number(self):
        for row in ROWS:
            words = row.split(" ")
            for k, word in itertools.product(range(1, len(words)), NO_NUMBERS):
                if words[k].strip("-").isdigit():
                    self.assert_row_refused(NoText, " ".join(words[:k] + [word] + words[k + 1:]))

    def test_what_is_no_point(self):
        for row in ROWS:
            words = row.split(" ")
            for k, word in itertools.product(range(1, len(words)), NO_POINTS):
                if "," in words[k]:
                    self.assert_row_refused(NoText, " ".join(words[:k] + [word] + words[k + 1:]))

    def test_sixty_figures_are_read(self):
        self.assert_says(f"field n {MOST},{-MOST}", "ok")
        self.assert_says("show n", f"{MOST},{-MOST}")
        self.assert_says(f"where a {-MOST},{MOST}", "out")
        self.assert_says(f"share a 1 1 {MOST}", "5")
        self.assert_says(f"share a 1 1 {-MOST}", "0")

    def test_which_refusal_comes_first(self):
        big = "1" * 61
        for row, own in (
            # The row ahead of its words.
            ("shows A", NoRow), ("show A x", NoRow), ("count A", NoRow), ("field A", NoRow), ("move N x 1 1 1 1 1", NoRow),
            ("tell x -1 5", NoName), ("count a x y", NoRow), ("where a x y", NoRow), ("names x", NoRow),
            # Word by word from the left.
            ("count x y", NoName), ("count X -1", NoName), ("count a y", NoText), ("where x y", NoName), ("tell x y z", NoName),
            ("tell a y z", NoText), ("fold N x y", NoName), ("fold n x y", NoName), ("fold n a y", NoText),
            ("sum n x y", NoName), ("sum n a y", NoName), ("field N x", NoName), ("field n 1,1 x", NoText),
            ("move n x 2 0 0 1 0 z", NoName), ("share x y z w", NoName), ("share a 1 z w", NoText), ("alike x A", NoName),
            ("mixed a A", NoName),
            # The words ahead of the deed.
            (f"count a -{big}", NoText), ("count c -1", NoName), ("inner c -1", NoName), ("tell c -1 0,0", NoName),
            ("tell a -1 x", NoText), ("tell b -1 0;0", NoText), ("move n a 2 0 0 1 0 x", NoText),
            ("move n c 2 0 0 1 0 0", NoName), ("move N a 2 0 0 1 0 0", NoName), ("facing N b", NoName), ("facing n c", NoName),
            (f"fold N a {MOST}", NoName), (f"move n a 2 0 0 1 0 {big}", NoText),
            # The deed ahead of TooGreat.
            (f"move n a 2 0 0 {MOST} {MOST} {MOST}", NoMove), (f"move n b {MOST} 0 0 {MOST} 0 0", NoMove),
        ):
            self.assert_row_refused(own, row)


class DeedsTest(DeskCase):
    """Deeds that are refused themselves."""

    def test_no_move(self):
        for numbers in (
            "0 0 0 0 0 0", "1 0 0 0 0 0", "2 0 0 1 0 0", "1 1 1 1 5 5", "1 2 3 4 0 0", "1 0 0 -2 0 0", f"{MOST} 1 1 {MOST} 0 0",
        ):
            self.assert_row_refused(NoMove, f"move n a {numbers}")
            self.assert_row_refused(NoMove, f"move a a {numbers}")

    def test_no_number(self):
        for k, deed, name in itertools.product((-1, -2, -FORTY, -MOST), ("count", "inner"), "ab"):
            self.assert_row_refused(NoNumber, f"{deed} {name} {k}")
        for k, P in itertools.product((-1, -MOST), ("0,0", "1,0", "99,99")):
            self.assert_row_refused(NoNumber, f"tell a {k} {P}")
            self.assert_row_refused(NoNumber, f"tell a {k} {P}", desk_with(VERY_GREAT[3]))

    def test_too_many(self):
        for land in ONE_MORE + VERY_GREAT[:6]:
            desk = desk_with(land)
            for k, P in ((0, "0,0"), (1, "0,0"), (2, "-9,-9"), (MOST, "0,0")):
                self.assert_row_refused(TooMany, f"tell a {k} {P}", desk)
        for land in HUNDRED:
            self.assert_says(f"tell a 1 {land[0][0]},{land[0][1]}", f"{land[0][0]},{land[0][1]}*1", desk_with(land))

    def test_not_there(self):
        for row in (
            "tell a 0 1,0", "tell a 0 -1,-1", "tell a 1 1,1", "tell a 1 5,5", "tell a 2 3,0", "tell b 1 5,0",
            f"tell a {FORTY} {MOST},0",
        ):
            self.assert_row_refused(NotThere, row)

    def test_no_heart(self):
        for land in (CORNER, SQUARE, SLOPE, [(0, 0)], [(-1, 0), (1, 0)], [(-1, -1), (3, -1), (-1, 3)], VERY_GREAT[3]):
            desk = desk_with(land)
            self.assert_row_refused(NoHeart, "facing n a", desk)
            self.assert_row_refused(NoHeart, "facing a a", desk)

    def test_flat_fields_are_not_refused(self):
        desk = desk_with([(3, 4)], [(0, 4), (6, 0)])
        for row, answer in (
            ("form n a", "ok"), ("show n", "0,0"), ("form n b", "ok"), ("show n", "0,0 2,0"), ("alike a b", "no"),
            ("alike a a", "1 0 0 1 0 0"), ("area b", "0"), ("rim b", "3"), ("inner b 5", "0"), ("count b 5", "11"),
            ("sum n a b", "ok"), ("show n", "3,8 9,4"),
        ):
            self.assert_says(row, answer, desk)


class TooGreatTest(DeskCase):
    def test_sixty_figures_and_sixty_one(self):
        desk = desk_with([(0, 0), (1, 0)], [(0, 0), (MOST, 0)], [(-MOST, -MOST), (MOST, MOST)], [(0, 0), (0, 1)], [(0, 0)])
        for row, corners in (
            (f"fold n a {MOST}", f"0,0 {MOST},0"), (f"fold n a {-MOST}", f"{-MOST},0 0,0"),
            (f"fold n d {-MOST}", f"0,{-MOST} 0,0"), (f"fold n d {MOST}", f"0,0 0,{MOST}"), ("fold n b -1", f"{-MOST},0 0,0"),
            ("fold n c 1", f"{-MOST},{-MOST} {MOST},{MOST}"), ("sum n c e", f"{-MOST},{-MOST} {MOST},{MOST}"),
            (f"move n e 1 0 0 1 {MOST} {-MOST}", f"{MOST},{-MOST}"),
            (f"move n a 1 0 0 1 {MOST - 1} 0", f"{MOST - 1},0 {MOST},0"), (f"move n a 1 0 {MOST} 1 0 0", f"0,0 1,{MOST}"),
            (f"move n b 1 0 0 1 {-MOST} {-MOST}", f"{-MOST},{-MOST} 0,{-MOST}"), ("sum n b e", f"0,0 {MOST},0"),
        ):
            self.assert_says(row, "ok", desk)
            self.assert_says("show n", corners, desk)
        for row in (
            "fold n b 2", "fold n b -2", "fold n c 2", f"fold n b {MOST}", "fold b b 2", "sum n a b", "sum n b b", "sum n c d",
            "sum b b b", f"move n a 1 0 0 1 {MOST} 0", f"move n d 1 0 0 1 0 {MOST}", f"move n a -1 0 0 1 {-MOST} 0",
            f"move n d 1 0 0 -1 0 {-MOST}", "move b b 1 0 0 1 1 0", "move n b 2 1 1 1 0 0", "form n c",
        ):
            self.assert_row_refused(TooGreat, row, desk)

    def test_the_edge_itself(self):
        self.assert_says(f"field n {MOST},0", "ok")
        self.assert_row_refused(TooGreat, "move n n 1 0 0 1 1 0")
        self.assert_says("move n n 1 0 0 1 0 1", "ok")
        self.assert_says("show n", f"{MOST},1")
        self.assert_says(f"field n 0,{-MOST}", "ok")
        self.assert_row_refused(TooGreat, "move n n 1 0 0 1 0 -1")
        self.assert_says("move n n 1 0 0 1 -1 0", "ok")
        self.assert_says("show n", f"-1,{-MOST}")

    def test_sixty_corners_and_sixty_one(self):
        # A side along one of the field's own makes one corner more, along none of them two.
        for many, way, more in ((58, (0, 1), 2), (59, (1, 1), 1), (60, (1, 1), 1), (59, (0, 1), 2), (60, (-1, 5), 2)):
            line = field([(0, 0), way])
            desk = desk_with(bowl(many), line)
            self.assertEqual(len(together(bowl(many), line)), many + more)
            for row in ("sum n a b", "sum n b a", "sum a a b"):
                if many + more > 60:
                    self.assert_row_refused(TooGreat, row, desk)
                else:
                    self.assert_says(row, "ok", desk)
        for row in ("sum n a a", "fold n a 2", "form n a", "move n a 1 0 0 1 5 5"):
            self.assert_says(row, "ok", desk_with(bowl(60)))

    def test_forms(self):
        for land in ([(0, 0), (MOST, 0), (0, MOST)], [(0, 0), (1, 0), (0, MOST)], [(0, 0), (MOST, 0)]):
            desk = desk_with(land)
            self.assert_says("form n a", "ok", desk)
            self.assert_says("show n", show_points(land), desk)
        for land in ([(0, 0), (MOST, 1), (1, MOST)], [(-1, 0), (MOST, 0)], [(0, 0), (1, -1), (1, MOST)]):
            self.assert_row_refused(TooGreat, "form n a", desk_with(land))

    def test_nothing_else_is_too_great(self):
        desk = desk_with([(-MOST, -MOST), (MOST, MOST)], bowl(60))
        for row in ("show a", "rim a", "area b", f"count a {MOST}", "thin a", "alike a b", "mixed a b", f"where a {MOST},0"):
            self.assertIs(type(desk.say(row)), str)


class KeepingTest(DeskCase):
    """What stands: a NEW name by which a field stands, two desks, and what point [2] says."""

    def test_a_new_name_by_which_a_field_stands(self):
        for row, corners in (
            ("field a 7,7", "7,7"), ("fold a b 2", "0,0 8,0 8,8 0,8"), ("move a b 1 0 0 1 1 1", "1,1 5,1 5,5 1,5"),
            ("sum a b b", "0,0 8,0 8,8 0,8"), ("form a b", "0,0 4,0 4,4 0,4"),
        ):
            self.assert_says(row, "ok")
            self.assert_says("show a", corners)
            self.assert_says("show b", "0,0 4,0 4,4 0,4")
            self.assert_says("names", "a b")

    def test_new_is_one_or_other_itself(self):
        for row, corners in (
            ("fold b b 2", "0,0 8,0 8,8 0,8"), ("move b b 0 1 1 0 -1 2", "-1,2 7,2 7,10 -1,10"),
            ("form b b", "0,0 8,0 8,8 0,8"), ("field c 0,0 1,1", "0,0 1,1"), ("sum b b c", "0,0 8,0 9,1 9,9 1,9 0,8"),
            ("sum c b c", "0,0 8,0 10,2 10,10 2,10 0,8"), ("sum c c c", "0,0 16,0 20,4 20,20 4,20 0,16"),
            ("field b -1,-1 1,0 0,1", "-1,-1 1,0 0,1"), ("facing b b", "-2,1 1,-2 1,1"), ("facing b b", "-1,-1 1,0 0,1"),
            ("fold b b 0", "0,0"),
        ):
            self.assert_says(row, "ok")
            self.assert_says("show " + row.split(" ")[1], corners)
        self.assert_says("names", "a b c")

    def test_two_desks(self):
        other = Desk()
        self.assert_says("names", "", other)
        self.assert_row_refused(NoName, "show a", other)
        self.assert_says("field a 1,2", "ok", other)
        self.assert_says("show a", show_points(HEARTS[5]))
        self.assert_says("show a", "1,2", other)
        self.assert_says("drop a", "ok")
        self.assert_says("show a", "1,2", other)
        self.assert_says("names", "b")
        self.assert_says("names", "a", other)
        self.assert_says("fold a a 5", "ok", other)
        self.assert_says("names", "", Desk())
        self.assert_row_refused(NoName, "show a")

    def test_asking_changes_nothing(self):
        before = all_that_stands(self.desk)
        for row in ROWS:
            if row.split(" ")[0] not in ("field", "move", "fold", "sum", "form", "facing", "drop"):
                self.desk.say(row)
        self.assertEqual(all_that_stands(self.desk), before)

    def test_many_fields(self):
        names = ["".join(letters) for letters in itertools.product("abcdef", repeat=3)]
        for k, name in enumerate(reversed(names)):
            self.assert_says(f"field {name} {k},{-k}", "ok")
        self.assert_says("names", " ".join(sorted(names + ["a", "b"])))
        self.assert_says("show aaa", f"{len(names) - 1},{1 - len(names)}")

    def test_steps_go_with_the_figures(self):
        desk = desk_with([(0, 0), (MOST, 1), (1, MOST)], [(-MOST, 1 - MOST), (MOST, MOST)])
        for row in (
            "show a", "area a", "rim a", f"count a {MOST}", f"inner a {MOST}", "mixed a b", f"share a {MOST} {MOST - 1} {MOST}",
            "where a 1,1", "alike a b", "alike a a", "thin a", "thin b", "fold n a 1",
        ):
            self.assertEqual(within(100000, desk.say, row), desk.say(row))


if __name__ == "__main__":
    unittest.main()
