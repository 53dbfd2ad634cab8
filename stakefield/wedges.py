"""Wedges [26], their least points and turns [27], and whole points spread on these [28]."""

from stakefield.chains import chain
from stakefield.errors import NoWedge, NotThere
from stakefield.fields import turn
from stakefield.moves import level, moved, steps, way_back

TIP = (0, 0)


def is_wedge(u, v):
    return steps(TIP, u) == 1 and steps(TIP, v) == 1 and turn(TIP, u, v) == 1


def need_wedge(u, v):
    if not is_wedge(u, v):
        raise NoWedge("a wedge needs two points one step from (0, 0), the second at the left hand of the first")


def lies_in(u, v, P):
    return turn(TIP, u, P) > -1 and turn(TIP, P, v) > -1


def turns(u, v):
    need_wedge(u, v)
    # Levelled, u is (1, 0), v some (x, n), and the least point w beside u the wedge's first one of the row at height 1,
    # at x / n rounded up. So v is n w - q u with q from 0 on and less than n. The next least point is b w - u, with b
    # as the chain of n and q begins; v is q of it less b q - n of w, and so it goes on as the chain does.
    place = moved(v, level(TIP, u))
    return chain(place[1], -place[0] % place[1])


def beside(u, v):
    move = level(TIP, u)
    place = moved(v, move)
    return moved((-(-place[0] // place[1]), 1), way_back(move))


def least(u, v):
    bends = turns(u, v)
    row = [u, beside(u, v)]
    for b in bends:
        row.append((b * row[-1][0] - row[-2][0], b * row[-1][1] - row[-2][1]))
    return row


def crossed(P, Q):
    return P[0] * Q[1] - P[1] * Q[0]


def spread(u, v, P):
    need_wedge(u, v)
    if not lies_in(u, v, P):
        raise NotThere("the point does not lie in the wedge")
    row = least(u, v)
    k = 1
    while turn(TIP, P, row[k]) < 0:
        k += 1
    # Two neighbours make a least triangle with (0, 0): so a whole point between them is made of whole numbers of both.
    pairs = [(row[k - 1], crossed(P, row[k])), (row[k], crossed(row[k - 1], P))]
    return [pair for pair in pairs if pair[1] > 0]
