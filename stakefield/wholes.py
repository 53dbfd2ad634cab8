"""Whole numbers: what one is [2], the shares of two [4], the sum of a row rounded down [5]."""

from stakefield.errors import NoNumber


def is_whole(thing):
    # Python counts True and False among its ints, point 2 does not.
    return isinstance(thing, int) and not isinstance(thing, bool)


def sign(number):
    if number > 0:
        return 1
    if number < 0:
        return -1
    return 0


def shares(a, b):
    if b == 0:
        return (abs(a), sign(a), 0)
    # Throughout, high_times * a and low_times * a differ from high and low by a
    # multiple of b alone; so t need not be carried along, it follows from g and s.
    high = abs(b)
    high_times = 0
    low = a % high
    low_times = 1
    while low != 0:
        fits = high // low
        rest = high - fits * low
        rest_times = high_times - fits * low_times
        high = low
        high_times = low_times
        low = rest
        low_times = rest_times
    s = high_times % (abs(b) // high)
    return (high, s, (high - s * a) // b)


def row_sum(many, step, start, part):
    if many < 0 or part < 1:
        raise NoNumber("a row sum needs many from 0 on and part from 1 on")
    total = 0
    while True:
        # The whole parts of step and start are summed at once; what is left of both is less than part.
        total += (step // part) * (many * (many - 1) // 2) + (start // part) * many
        step = step % part
        start = start % part
        top = step * many + start
        if top < part:
            return total
        # What is left counts the whole points under a line; counted by rows in the
        # place of columns, it is a row sum of its own with step and part changed over.
        many = top // part
        start = top % part
        old_step = step
        step = part
        part = old_step
