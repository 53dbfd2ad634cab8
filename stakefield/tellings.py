"""Whole points of a field's multiples told by its stakes [21], and what such a list comes to [22]."""

from stakefield.errors import NoNumber, NotThere
from stakefield.fields import sides, where
from stakefield.moves import level, moved, way_back
from stakefield.pieces import pieces
from stakefield.sums import fold


def widened(piece):
    # What lies on a corner or a side of a least triangle takes its other corners no times: so pieces
    # of one and two stakes are told as triangles are, with corners at the left hand that are no stakes.
    corners = list(piece)
    if len(corners) == 1:
        corners.append((corners[0][0] + 1, corners[0][1]))
    if len(corners) == 2:
        corners.append(moved((0, 1), way_back(level(corners[0], corners[1]))))
    return corners


def times(k, P, Q, R):
    # A least triangle has the double area 1. So how often a point of its k-fold takes the corner
    # across from the side Q R is k times the double area of the point's k-th part, Q and R.
    return k * (Q[0] * R[1] - Q[1] * R[0]) + P[0] * (Q[1] - R[1]) - P[1] * (Q[0] - R[0])


def put_together(piece, k, P):
    corners = widened(piece)
    across = sides(corners[1:] + corners[:1])
    pairs = [(corner, times(k, P, side[0], side[1])) for corner, side in zip(corners, across)]
    return sorted([pair for pair in pairs if pair[1] > 0])


def told(land, k, P):
    if k < 0:
        raise NoNumber("points are told for k from 0 on")
    # A piece is a field of its own, and the pieces' multiples fill the field's.
    for piece in pieces(land):
        if where(fold(list(piece), k), P) > -1:
            return put_together(piece, k, P)
    raise NotThere("the point lies outside the k-fold field")


def retold(pairs):
    x = sum([number * P[0] for P, number in pairs])
    y = sum([number * P[1] for P, number in pairs])
    return (sum([number for P, number in pairs]), (x, y))
