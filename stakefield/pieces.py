"""Another point of a triangle [15], the stakes of a field and least pieces that fill it [17], their faces [18]."""

from stakefield.counts import count
from stakefield.errors import Flat, TooMany
from stakefield.fields import field, field_moved, sides, turn
from stakefield.moves import level, moved, steps, way_back

MOST_STAKES = 100


def another(P, Q, R):
    corners = field([P, Q, R])
    if len(corners) < 3:
        raise Flat("three points on a line have no triangle")
    move = level(corners[0], corners[1])
    top = moved(corners[2], move)
    if top[1] > 1:
        # With (0, 0) and (g, 0) as the other corners the row of height 1 begins at x / y of the top
        # and is at least (y - 1) / y long: so the next whole point from its begin on is still in it.
        found = (-(-top[0] // top[1]), 1)
    elif steps(corners[0], corners[1]) > 1:
        found = (1, 0)
    else:
        return None
    return moved(found, way_back(move))


def row_ends(land, y):
    # The outermost corners bound each row, and alone do so where no side rises.
    begins = [min(land)[0]]
    ends = [max(land)[0]]
    for A, B in sides(land):
        rise = B[1] - A[1]
        run = (B[0] - A[0]) * (y - A[1])
        if rise > 0:
            ends.append(A[0] + run // rise)
        if rise < 0:
            begins.append(A[0] - run // -rise)
    return (max(begins), min(ends))


def by_rows(land):
    # On a levelled side a triangle of the field's height stands in the field, so there are no more rows
    # than its double area and one, and few stakes mean a small double area, however far apart they lie.
    move = level(land[0], land[1])
    levelled = field_moved(land, move)
    back = way_back(move)
    found = []
    for y in range(max([P[1] for P in levelled]) + 1):
        ends = row_ends(levelled, y)
        found.extend([moved((x, y), back) for x in range(ends[0], ends[1] + 1)])
    return sorted(found)


def stakes(land):
    if count(land) > MOST_STAKES:
        raise TooMany("the field has more than one hundred stakes")
    if len(land) == 1:
        return list(land)
    return by_rows(land)


def cut_off(row, hand):
    # Each stake lies outside the field of those ahead of it. Of that field's rim the part at one hand is kept,
    # with the stakes between corners; the new stake makes a triangle with each side of it that it sees.
    kept = []
    cut = []
    for P in row:
        while len(kept) > 1 and turn(kept[-2], kept[-1], P) == hand:
            cut.append(tuple(field([kept[-2], kept[-1], P])))
            kept.pop()
        kept.append(P)
    return cut


def pieces(land):
    row = stakes(land)
    if len(land) == 1:
        return [(row[0],)]
    if len(land) == 2:
        return list(zip(row, row[1:]))
    return sorted(cut_off(row, 1) + cut_off(row, -1))


def faces(some):
    points = []
    pairs = []
    for piece in some:
        points.extend(piece)
        for P in piece:
            pairs.extend([(P, Q) for Q in piece if P < Q])
    triangles = [piece for piece in some if len(piece) == 3]
    return (len(set(points)), len(set(pairs)), len(triangles))
