"""Counts the lines a call runs, so that a call that goes with distance fails where it would else hang."""

import sys


class TooLong(AssertionError):
    pass


def within(most, deed, *given):
    """What deed(*given) answers; TooLong once more than `most` lines were run for it."""
    run = 0

    def count(frame, event, arg):
        nonlocal run
        if event == "line":
            run += 1
            if run > most:
                raise TooLong(f"{deed.__name__} ran more than {most} lines")
        return count

    before = sys.gettrace()
    sys.settrace(count)
    try:
        return deed(*given)
    finally:
        sys.settrace(before)
