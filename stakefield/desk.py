"""A desk that keeps fields by names and is told rows: point [36]."""

from stakefield.columns import share
from stakefield.counts import count, inner_count
from stakefield.errors import NoName, NoRow, TooGreat
from stakefield.fields import double_area, field, field_moved, rim, where
from stakefield.forms import alike, form
from stakefield.hearts import facing
from stakefield.sums import fold, mixed, together
from stakefield.tellings import told
from stakefield.texts import read_number, read_point, show_number, show_point, show_points
from stakefield.thin import span_along, thin

MOST_LETTERS = 8
MOST_POINTS = 60
MOST_CORNERS = 60

# What stands behind each first word: NEW, ONE and OTHER are names, P is a point, all else a number.
ROWS = {
    "field": "NEW P", "move": "NEW ONE A B C D E F", "fold": "NEW ONE K", "sum": "NEW ONE OTHER", "form": "NEW ONE",
    "facing": "NEW ONE", "drop": "ONE", "names": "", "show": "ONE", "area": "ONE", "rim": "ONE", "count": "ONE K",
    "inner": "ONE K", "mixed": "ONE OTHER", "share": "ONE A B C", "where": "ONE P", "tell": "ONE K P",
    "alike": "ONE OTHER", "thin": "ONE",
}


def row_words(row):
    if not isinstance(row, str):
        raise NoRow("a row is a text")
    words = row.split(" ")
    if words[0] not in ROWS:
        raise NoRow("no row begins with this word")
    return words


def wanted(words):
    kinds = ROWS[words[0]].split()
    many = len(words) - 1
    if words[0] == "field":
        # Of all rows this one alone is of no fixed length: it has one point or more.
        more = many - len(kinds)
        kinds = kinds + ["P"] * min(more, MOST_POINTS - 1)
    if len(kinds) != many:
        raise NoRow("there are too few words or too many")
    return kinds


def need_name(word):
    letters = [sign for sign in word if "a" <= sign <= "z"]
    if len(word) < 1 or len(word) > MOST_LETTERS or len(letters) < len(word):
        raise NoName("a name is one to eight small letters")


def need_fit(land):
    numbers = [P[0] for P in land] + [P[1] for P in land]
    if len(land) > MOST_CORNERS or max([abs(number) for number in numbers]) >= 10 ** 60:
        raise TooGreat("a field that is kept has at most sixty corners, with numbers of at most sixty figures")


def made(deed, given):
    if deed == "field":
        return field(given)
    if deed == "move":
        return field_moved(given[0], tuple(given[1:]))
    if deed == "fold":
        return fold(given[0], given[1])
    if deed == "sum":
        return together(given[0], given[1])
    if deed == "form":
        return form(given[0])
    return facing(given[0])


def reckoned(deed, given):
    if deed == "area":
        return double_area(given[0])
    if deed == "rim":
        return rim(given[0])
    if deed == "count":
        return count(given[0], given[1])
    if deed == "inner":
        return inner_count(given[0], given[1])
    if deed == "mixed":
        return mixed(given[0], given[1])
    return share(given[0], given[1], given[2], given[3])


def show_where(land, P):
    side = where(land, P)
    if side < 0:
        return "out"
    return "in" if side > 0 else "on"


def show_told(land, k, P):
    pairs = told(land, k, P)
    if len(pairs) == 0:
        return "none"
    return " ".join([show_point(stake) + "*" + show_number(times) for stake, times in pairs])


def show_alike(one, other):
    move = alike(one, other)
    if move is None:
        return "no"
    return " ".join([show_number(number) for number in move])


def show_thin(land):
    way = thin(land)[0]
    return show_number(span_along(land, way)) + " " + show_point(way)


def answer(deed, given):
    if deed == "show":
        return show_points(given[0])
    if deed == "where":
        return show_where(given[0], given[1])
    if deed == "tell":
        return show_told(given[0], given[1], given[2])
    if deed == "alike":
        return show_alike(given[0], given[1])
    if deed == "thin":
        return show_thin(given[0])
    return show_number(reckoned(deed, given))


class Desk:
    def __init__(self):
        self.lands = {}

    def read(self, kind, word):
        if kind == "NEW":
            need_name(word)
            return word
        if kind in ("ONE", "OTHER"):
            if word not in self.lands:
                raise NoName("no field stands by this name")
            return self.lands[word]
        if kind == "P":
            return read_point(word)
        return read_number(word)

    def keep(self, name, land):
        need_fit(land)
        self.lands[name] = land
        return "ok"

    def drop(self, name):
        self.lands.pop(name)
        return "ok"

    def say(self, row):
        words = row_words(row)
        kinds = wanted(words)
        given = [self.read(kind, word) for kind, word in zip(kinds, words[1:])]
        if words[0] == "names":
            return " ".join(sorted(self.lands))
        if words[0] == "drop":
            return self.drop(words[1])
        if kinds[0] == "NEW":
            return self.keep(words[1], made(words[0], given[1:]))
        return answer(words[0], given)
