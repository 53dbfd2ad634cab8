"""Hearts and their facing fields: point [34]."""

from stakefield.counts import inner_count
from stakefield.errors import NoHeart
from stakefield.fields import field, sides, where
from stakefield.moves import steps


def is_heart(land):
    return where(land, (0, 0)) == 1 and inner_count(land) == 1


def faced(A, B):
    # No other whole point lies in or on the triangle of (0, 0) and one step along the side, so its double
    # area is 1: that is what a x + b y comes to on the side, (a, b) being its step turned to the right.
    far = steps(A, B)
    return ((B[1] - A[1]) // far, (A[0] - B[0]) // far)


def facing(land):
    if not is_heart(land):
        raise NoHeart("a heart is a field in which (0, 0), and no other whole point, lies")
    return field([faced(A, B) for A, B in sides(land)])
