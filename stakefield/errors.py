"""The refusals: StakeError is any of them, and each has a class of its own straight under it."""


class StakeError(ValueError):
    pass


class NoNumber(StakeError):
    pass


class NoMove(StakeError):
    pass


class NoField(StakeError):
    pass


class Flat(StakeError):
    pass


class TooMany(StakeError):
    pass


class NotThere(StakeError):
    pass


class NoWedge(StakeError):
    pass


class NoHeart(StakeError):
    pass


class NoText(StakeError):
    pass


class NoName(StakeError):
    pass


class NoRow(StakeError):
    pass


class TooGreat(StakeError):
    pass
