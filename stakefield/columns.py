"""How many whole points of a field lie in some columns [19] or at one side of a line [20]."""

from stakefield.counts import count
from stakefield.fields import field_moved, sides
from stakefield.wholes import row_sum, shares


def side_part(A, B, left, right):
    # A column has its top rounded down, plus 1, less its bottom rounded up. A side that goes to the left is a top
    # and gives the first two, one that goes to the right is a bottom and gives the last; each has the columns
    # from its left end on to, but without, its right one, so that none is taken twice.
    run = B[0] - A[0]
    rise = B[1] - A[1]
    first = max(left, min(A[0], B[0]))
    many = min(right + 1, max(A[0], B[0])) - first
    if many < 1:
        return 0
    rounded = row_sum(many, -rise, -(A[1] * run + (first - A[0]) * rise), abs(run))
    return rounded + many if run < 0 else rounded


def last_column(land, left, right):
    x = max(land)[0]
    if x < left or x > right:
        return 0
    heights = [P[1] for P in land if P[0] == x]
    return max(heights) - min(heights) + 1


def columns(land, left, right):
    parts = [side_part(A, B, left, right) for A, B in sides(land)]
    return sum(parts) + last_column(land, left, right)


def share(land, a, b, c):
    if a == 0 and b == 0:
        return count(land) if c >= 0 else 0
    # As s a + t b = g, this is a move, and it makes columns of the lines on which a x + b y is the same.
    parts = shares(a, b)
    g = parts[0]
    upright = field_moved(land, (a // g, b // g, -parts[2], parts[1], 0, 0))
    return columns(upright, upright[0][0], c // g)
