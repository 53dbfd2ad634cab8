"""Numbers, points and rows of points, read from texts and written: point [35]."""

from stakefield.errors import NoText

FIGURES = "0123456789"
MOST_FIGURES = 60
MOST_POINTS = 60


def need_text(thing):
    if not isinstance(thing, str):
        raise NoText("what is read is a text")


def is_written_number(text):
    figures = text[1:] if text.startswith("-") else text
    if len(figures) < 1 or len(figures) > MOST_FIGURES:
        return False
    # Python's own isdigit and int take figures of other scripts too.
    if not all([sign in FIGURES for sign in figures]):
        return False
    return text == "0" or figures[0] != "0"


def read_number(text):
    need_text(text)
    if not is_written_number(text):
        raise NoText("a number is one to sixty figures, without noughts ahead, behind a - where it is below 0")
    return int(text)


def read_point(text):
    need_text(text)
    parts = text.split(",")
    if len(parts) != 2:
        raise NoText("a point is two numbers with a comma between")
    return (read_number(parts[0]), read_number(parts[1]))


def read_points(text):
    need_text(text)
    words = text.split(" ")
    if len(words) > MOST_POINTS:
        raise NoText("points are one to sixty with one blank between each two")
    return [read_point(word) for word in words]


def show_number(number):
    return str(number)


def show_point(P):
    return show_number(P[0]) + "," + show_number(P[1])


def show_points(points):
    return " ".join([show_point(P) for P in points])
