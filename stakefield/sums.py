"""Fields taken several times and put together: point [14]."""

from stakefield.fields import double_area, field, sides, turn


def fold(land, k):
    return field([(k * P[0], k * P[1]) for P in land])


def plus(P, Q):
    return (P[0] + Q[0], P[1] + Q[1])


def ways(land):
    return [(B[0] - A[0], B[1] - A[1]) for A, B in sides(land)]


def no_later(way, other_way):
    # Round from its least corner a field goes with the order of points up to the greatest one, then against it.
    if (way < (0, 0)) != (other_way < (0, 0)):
        return other_way < (0, 0)
    return turn((0, 0), way, other_way) > -1


def in_turn(some, others):
    row = []
    done = 0
    for way in others:
        while done < len(some) and no_later(some[done], way):
            row.append(some[done])
            done += 1
        row.append(way)
    return row + some[done:]


def together(one, other):
    # The sides of both together are those of the one and of the other, taken as they turn to the left:
    # to walk them takes as many steps as both have corners, where all sums of corners would be many more.
    place = plus(one[0], other[0])
    points = []
    for way in in_turn(ways(one), ways(other)):
        points.append(place)
        place = plus(place, way)
    return field(points)


def mixed(one, other):
    return double_area(together(one, other)) - double_area(one) - double_area(other)
