"""The span of a field along two whole numbers [32], and its thin ways [33]."""


def span(land, a, b):
    worths = [a * P[0] + b * P[1] for P in land]
    return max(worths) - min(worths)


def span_along(land, way):
    return span(land, way[0], way[1])


def aside(first, second, m):
    return (second[0] + m * first[0], second[1] + m * first[1])


def falls(land, first, second, m):
    return span_along(land, aside(first, second, m + 1)) < span_along(land, aside(first, second, m))


def fallen(land, first, second):
    # As m grows the span along second + m first falls, if at all, up to some m and never behind it.
    # To double m, then halve the way back, finds this one in as many steps as it has figures.
    low = 0
    high = 0
    while falls(land, first, second, high):
        low = high + 1
        high += low
    while low < high:
        middle = (low + high) // 2
        if falls(land, first, second, middle):
            low = middle + 1
        else:
            high = middle
    return aside(first, second, low)


def shortened(land, first, second):
    back = (-first[0], -first[1])
    return fallen(land, back, fallen(land, first, second))


def thin(land):
    # As two numbers are divided in turn until the rest is 0, so the ways are shortened
    # by one another in turn until neither is shortened more; a d - b c stays 1 or -1.
    first = (1, 0)
    second = shortened(land, first, (0, 1))
    while span_along(land, second) < span_along(land, first):
        rest = shortened(land, second, first)
        first = second
        second = rest
    return (first, second)
