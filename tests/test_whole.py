"""The whole program: what points [1], [2] and [3] promise over all its modules, asked of the functions and of the desk."""

import copy
import importlib
import inspect
import itertools
import unittest
from collections import Counter

from helping import FAR_MOVES, MOVES, SLANTS, StakeCase, desk_with, walked, within
from stakefield.counts import count, inner_count
from stakefield.desk import Desk
from stakefield.errors import NoHeart, NotThere
from stakefield.fields import double_area, field, field_moved, is_field, rim, where
from stakefield.forms import alike, form, to_form
from stakefield.hearts import facing, is_heart
from stakefield.moves import is_move, moved
from stakefield.pieces import pieces, stakes
from stakefield.sums import fold
from stakefield.tellings import retold, told
from stakefield.texts import read_points, show_points
from stakefield.thin import span, thin

# Each function of the interface, with its arguments as they stand there.
INTERFACE = {
    "wholes": "is_whole(thing) shares(a, b) row_sum(many, step, start, part)",
    "moves": "is_move(thing) moved(P, move) behind(first, second) way_back(move) steps(P, Q) level(P, Q)",
    "fields": "turn(P, Q, R) field(points) is_field(points) where(land, P) double_area(land) rim(land) field_moved(land, move)",
    "sums": "fold(land, k) together(one, other) mixed(one, other)",
    "counts": "count(land, k=1) inner_count(land, k=1)",
    "pieces": "another(P, Q, R) stakes(land) pieces(land) faces(some)",
    "columns": "columns(land, left, right) share(land, a, b, c)",
    "tellings": "told(land, k, P) retold(pairs)",
    "chains": "chain(n, q) unchain(some) other_chain(some)",
    "wedges": "is_wedge(u, v) least(u, v) turns(u, v) spread(u, v, P)",
    "forms": "stands(land) form(land) to_form(land) alike(one, other) own_moves(land)",
    "thin": "span(land, a, b) thin(land)",
    "hearts": "is_heart(land) facing(land)",
    "texts": "read_number(text) read_point(text) read_points(text) show_number(number) show_point(P) show_points(points)",
}
SMALL = list(itertools.product(range(-1, 2), repeat=2))
WAYS = [way for way in itertools.product(range(-5, 6), repeat=2) if way != (0, 0)]
# The linear parts of all moves with small numbers: enough for each move between two fields of the window.
PARTS = [part for part in itertools.product(range(-4, 5), repeat=4) if part[0] * part[3] - part[1] * part[2] in (1, -1)]


def all_fields():
    """All fields whose corners stand in the window."""
    found = {tuple(field(list(some))) for many in range(1, 6) for some in itertools.combinations(SMALL, many)}
    return [list(land) for land in sorted(found)]


LANDS = all_fields()
FEW = LANDS[::9]


def put_at_the_tip(land):
    """The same field with its least corner at (0, 0)."""
    return tuple((P[0] - land[0][0], P[1] - land[0][1]) for P in land)


def all_tellings(land, k):
    """For each point all ways in which it is k stakes, some of them several times, all of one piece."""
    found = {}
    for piece in pieces(land):
        for some in itertools.combinations_with_replacement(piece, k):
            P = (sum(x for x, y in some), sum(y for x, y in some))
            found.setdefault(P, set()).add(tuple(sorted(Counter(some).items())))
    return found


class InterfaceTest(unittest.TestCase):
    def test_every_function_is_there_with_its_arguments(self):
        for name, rows in INTERFACE.items():
            module = importlib.import_module("stakefield." + name)
            for row in rows.replace(") ", ")\n").split("\n"):
                with self.subTest(module=name, row=row):
                    deed = getattr(module, row.partition("(")[0])
                    self.assertEqual(deed.__name__ + str(inspect.signature(deed)), row)
                    self.assertEqual(deed.__module__, module.__name__)

    def test_the_desk_is_there(self):
        self.assertIs(inspect.isclass(Desk), True)
        self.assertEqual(str(inspect.signature(Desk)), "()")
        self.assertEqual(str(inspect.signature(Desk().say)), "(row)")


class CountsTest(StakeCase):
    """[3]: just as many whole points lie in the K-fold field and on its rim as its count tells."""

    def test_against_walking(self):
        for land in LANDS:
            desk = desk_with(land)
            for k in range(4):
                many = fold(land, k)
                lie, inner = len(walked(many)), len(walked(many, 1))
                self.assertEqual((count(land, k), inner_count(land, k)), (lie, inner), (land, k))
                self.assertEqual((desk.say(f"count a {k}"), desk.say(f"inner a {k}")), (str(lie), str(inner)))
                self.assertEqual(rim(many), lie - inner)
                self.assertEqual(desk.say(f"fold many a {k}"), "ok")
                self.assertEqual((desk.say("show many"), desk.say("rim many")), (show_points(many), str(lie - inner)))
                self.assertEqual(desk.say(f"share a 0 0 {k}"), desk.say("count a 1"))

    def test_the_double_area_of_the_pieces(self):
        for land in LANDS:
            triangles = [piece for piece in pieces(land) if len(piece) == 3]
            self.assertEqual(double_area(land), len(triangles))
            self.assertEqual(desk_with(land).say("area a"), str(len(triangles)))


class TellingsTest(StakeCase):
    """[3]: each whole point of the K-fold field is told as K stakes of one piece, in just one way."""

    def test_in_just_one_way(self):
        for land in LANDS:
            self.assertEqual(stakes(land), walked(land))
            for k in range(4):
                ways = all_tellings(land, k)
                self.assertEqual(sorted(ways), walked(fold(land, k)), (land, k))
                for P, some in ways.items():
                    self.assertEqual(some, {tuple(told(land, k, P))}, (land, k, P))
                    self.assertEqual(retold(told(land, k, P)), (k, P))

    def test_asked_of_the_desk(self):
        for land in LANDS[::2]:
            desk = desk_with(land)
            for k in range(4):
                ways = all_tellings(land, k)
                for P in itertools.product(range(-k - 1, k + 2), repeat=2):
                    row = f"tell a {k} {P[0]},{P[1]}"
                    if P in ways:
                        (pairs,) = ways[P]
                        self.assertEqual(desk.say(row), " ".join(f"{x},{y}*{times}" for (x, y), times in pairs) or "none")
                    else:
                        self.assert_refused(NotThere, desk.say, row)
                        self.assert_refused(NotThere, told, land, k, P)


class MovedTest(StakeCase):
    """[3]: the moved field has the moved points, the same counts, the same form."""

    def test_moved_fields(self):
        for land, move in itertools.product(FEW, MOVES + FAR_MOVES + SLANTS):
            there = field_moved(land, move)
            self.assertIs(is_field(there), True)
            self.assertEqual(stakes(there), sorted(moved(P, move) for P in walked(land)))
            for k in (0, 1, 2, 10 ** 40):
                self.assertEqual((count(there, k), inner_count(there, k)), (count(land, k), inner_count(land, k)))
            self.assertEqual((double_area(there), rim(there)), (double_area(land), rim(land)))
            self.assertEqual(form(there), form(land))
            self.assertEqual(field_moved(there, to_form(there)), form(land))
            self.assertEqual(field_moved(land, alike(land, there)), there)
            for P in SMALL:
                self.assertEqual(where(there, moved(P, move)), where(land, P))

    def test_asked_of_the_desk(self):
        for land, move in itertools.product(LANDS, MOVES[1:] + SLANTS[:2]):
            desk = desk_with(land)
            self.assertEqual(desk.say("move there a " + " ".join(map(str, move))), "ok")
            self.assertEqual(read_points(desk.say("show there")), field_moved(land, move))
            for row in ("area {}", "rim {}", "count {} 1", "count {} 7", "inner {} 7"):
                self.assertEqual(desk.say(row.format("there")), desk.say(row.format("a")))
            self.assertEqual((desk.say("form f a"), desk.say("form g there")), ("ok", "ok"))
            self.assertEqual(desk.say("show f"), desk.say("show g"))
            self.assertEqual(desk.say("move back a " + desk.say("alike a there")), "ok")
            self.assertEqual(desk.say("show back"), desk.say("show there"))
            self.assertEqual(desk.say("thin there").split(" ")[0], desk.say("thin a").split(" ")[0])


class AlikeTest(StakeCase):
    """[3]: the same form just where a whole move leads from the one to the other, and then one is told that does."""

    def test_just_where_a_move_leads_there(self):
        for one in FEW:
            reached = {put_at_the_tip(field_moved(one, part + (0, 0))) for part in PARTS}
            for other in LANDS:
                leads = put_at_the_tip(other) in reached
                self.assertIs(form(one) == form(other), leads, (one, other))
                move = alike(one, other)
                said = desk_with(one, other).say("alike a b")
                if leads:
                    self.assertIs(is_move(move), True)
                    self.assertEqual(field_moved(one, move), other)
                    self.assertEqual(said, " ".join(map(str, move)))
                else:
                    self.assertIsNone(move)
                    self.assertEqual(said, "no")


class ThinTest(StakeCase):
    """[3]: no direction but (0, 0) crosses a field in a lesser span than the one told."""

    def test_no_lesser_span(self):
        for land, move in itertools.product(LANDS, MOVES[:4] + SLANTS[:1]):
            there = field_moved(land, move)
            lesser = []
            for a, b in WAYS:
                worths = [a * x + b * y for x, y in land]
                lesser.append(max(worths) - min(worths))
            first = thin(there)[0]
            self.assertEqual(span(there, first[0], first[1]), min(lesser), there)
            self.assertEqual(desk_with(there).say("thin a"), f"{min(lesser)} {first[0]},{first[1]}")


class HeartsTest(StakeCase):
    def test_hearts_and_what_are_none(self):
        for land in LANDS:
            heart = walked(land, 1) == [(0, 0)]
            desk = desk_with(land)
            self.assertIs(is_heart(land), heart)
            if heart:
                self.assertEqual(desk.say("facing there a"), "ok")
                self.assertEqual(read_points(desk.say("show there")), facing(land))
                self.assertEqual(int(desk.say("rim a")) + int(desk.say("rim there")), 12)
            else:
                self.assert_refused(NoHeart, desk.say, "facing there a")
                self.assert_refused(NoHeart, facing, land)


class KeepingTest(StakeCase):
    """[2]"""

    def test_no_two_lists_told_are_one(self):
        for land in FEW:
            kept = copy.deepcopy(land)
            lists = [field(land), fold(land, 1), field_moved(land, MOVES[0]), form(land), stakes(land), stakes(land)]
            lists += [pieces(land), told(land, 1, land[0]), told(land, 1, land[0]), told(land, 0, (0, 0)), told(land, 0, (0, 0))]
            for one, other in itertools.combinations(lists + [land], 2):
                self.assertIsNot(one, other)
            for some in lists:
                some.clear()
            self.assertEqual(land, kept)

    def test_far_apart_is_told_as_soon(self):
        far = 10 ** 28
        desk = desk_with([(0, 0), (far, 3), (5, far + 1)])
        for row in (
            "show a", "area a", "rim a", "count a 5", "inner a 5", "share a 3 5 7", "where a 9,9", "thin a", "alike a a",
            "form n a", "fold n a 3", "sum n a a", "move n a 2 1 1 1 0 0",
        ):
            self.assertEqual(within(30000, desk.say, row), desk.say(row))


if __name__ == "__main__":
    unittest.main()
