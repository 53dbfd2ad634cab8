"""Moves of the plane that take whole points to whole points and back: points [6], [7], [8]."""

from stakefield.errors import NoMove
from stakefield.wholes import is_whole, shares


def hand(move):
    return move[0] * move[3] - move[1] * move[2]


def is_move(thing):
    if not isinstance(thing, tuple) or len(thing) != 6:
        return False
    if not all([is_whole(number) for number in thing]):
        return False
    return hand(thing) in (1, -1)


def need_move(thing):
    if not is_move(thing):
        raise NoMove("a move is six whole numbers (a, b, c, d, e, f) where a d - b c is 1 or -1")


def turned(P, move):
    return (move[0] * P[0] + move[1] * P[1], move[2] * P[0] + move[3] * P[1])


def moved(P, move):
    need_move(move)
    place = turned(P, move)
    return (place[0] + move[4], place[1] + move[5])


def behind(first, second):
    need_move(first)
    need_move(second)
    # The first move's columns are where it takes the directions (1, 0) and (0, 1).
    right = turned((first[0], first[2]), second)
    up = turned((first[1], first[3]), second)
    origin = moved((first[4], first[5]), second)
    return (right[0], up[0], right[1], up[1], origin[0], origin[1])


def way_back(move):
    need_move(move)
    # To divide by a d - b c, which is 1 or -1, is to multiply by it.
    side = hand(move)
    a = side * move[3]
    b = -side * move[1]
    c = -side * move[2]
    d = side * move[0]
    return (a, b, c, d, -(a * move[4] + b * move[5]), -(c * move[4] + d * move[5]))


def steps(P, Q):
    return shares(Q[0] - P[0], Q[1] - P[1])[0]


def level(P, Q):
    far = steps(P, Q)
    if far == 0:
        raise NoMove("a point and itself can't be levelled")
    u = (Q[0] - P[0]) // far
    v = (Q[1] - P[1]) // far
    parts = shares(u, v)
    s = parts[1]
    t = parts[2]
    return (s, t, -v, u, -s * P[0] - t * P[1], v * P[0] - u * P[1])
