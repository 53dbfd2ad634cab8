"""Fields, told as the lists of their corners: points [9] to [13]."""

from stakefield.errors import NoField
from stakefield.moves import moved, steps
from stakefield.wholes import sign


def turn(P, Q, R):
    return sign((Q[0] - P[0]) * (R[1] - P[1]) - (Q[1] - P[1]) * (R[0] - P[0]))


def left_bends(row):
    kept = []
    for P in row:
        while len(kept) > 1 and turn(kept[-2], kept[-1], P) < 1:
            kept.pop()
        kept.append(P)
    return kept


def field(points):
    if len(points) == 0:
        raise NoField("a field needs one point or more")
    row = sorted(set(points))
    if len(row) == 1:
        return row
    # Each way ends at the point with which the other one begins.
    there = left_bends(row)
    back = left_bends(row[::-1])
    return there[:-1] + back[:-1]


def is_field(points):
    return len(points) > 0 and points == field(points)


def sides(land):
    return list(zip(land, land[1:] + land[:1]))


def lies_between(P, Q, R):
    # Along a line points come in the order of points, so the ends bound what lies between.
    return turn(P, Q, R) == 0 and P <= R <= Q


def where(land, P):
    if len(land) < 3:
        return 0 if lies_between(land[0], land[-1], P) else -1
    # Without bays: a point at the right hand of one side is outside, else one on a side's line is on the rim.
    return min([turn(A, B, P) for A, B in sides(land)])


def double_area(land):
    return sum([A[0] * B[1] - A[1] * B[0] for A, B in sides(land)])


def rim(land):
    if len(land) < 3:
        return steps(land[0], land[-1]) + 1
    return sum([steps(A, B) for A, B in sides(land)])


def field_moved(land, move):
    return field([moved(P, move) for P in land])
