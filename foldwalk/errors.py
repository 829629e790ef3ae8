"""The refusals of the program, one class each."""


class WalkError(ValueError):
    pass


class NoFloor(WalkError):
    pass


class NoPlace(WalkError):
    pass


class NoCell(WalkError):
    pass


class NoSquare(WalkError):
    pass


class NoBox(WalkError):
    pass


class NoNumber(WalkError):
    pass


class TooMany(WalkError):
    pass
