"""The chain of two whole numbers [23], the way back from it [24], and the other chain [25]."""

from stakefield.errors import NoNumber, TooMany
from stakefield.wholes import is_whole, shares

MOST_NUMBERS = 100


def links(n, q):
    found = []
    while q > 0:
        if len(found) == MOST_NUMBERS:
            raise TooMany("the chain has more than one hundred numbers")
        b = -(-n // q)
        found.append(b)
        rest = b * q - n
        n = q
        q = rest
    return found


def is_chained(n, q):
    return is_whole(n) and is_whole(q) and 0 <= q < n and shares(n, q)[0] == 1


def chain(n, q):
    if not is_chained(n, q):
        raise NoNumber("a chain needs n from 1 on and q from 0 on below n that no number above 1 divides both")
    return links(n, q)


def unchain(some):
    if not all([is_whole(b) and b > 1 for b in some]):
        raise NoNumber("a chain holds whole numbers from 2 on alone")
    n = 1
    q = 0
    for b in reversed(some):
        longer = b * n - q
        q = n
        n = longer
    return (n, q)


def other_chain(some):
    both = unchain(some)
    n = both[0]
    # Of n = 1 and q = 0 the numbers n and n - q are 1 and 1, which have no chain.
    if n == 1:
        return []
    return links(n, n - both[1])
