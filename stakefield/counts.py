"""How many whole points lie in a field's multiples: point [16]."""

from stakefield.errors import NoNumber
from stakefield.fields import double_area, rim
from stakefield.sums import fold


def multiple(land, k):
    if k < 0:
        raise NoNumber("points are counted for k from 0 on")
    return fold(land, k)


def points_in(land):
    # A field of one or two corners is rim alone; of others the double area
    # is twice the points in it and once those on its rim, less 2.
    if len(land) < 3:
        return 0
    return (double_area(land) - rim(land) + 2) // 2


def inner_count(land, k=1):
    return points_in(multiple(land, k))


def count(land, k=1):
    many = multiple(land, k)
    return points_in(many) + rim(many)
