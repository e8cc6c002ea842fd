"""The refusals of the program, each straight under ReelError."""


class ReelError(ValueError):
    """Any refusal."""


class NoWays(ReelError):
    """So many reels can't be read at once."""


class NoRoom(ReelError):
    """A store can't have this room."""


class NoLevel(ReelError):
    """There is no such level."""


class NoStanding(ReelError):
    """Reels can't stand so."""


class TooMany(ReelError):
    """More than is let."""


class TooFew(ReelError):
    """Fewer than are needed."""


class NoPlace(ReelError):
    """There is nothing at this place."""


class NoText(ReelError):
    """What is to be read back wasn't written so."""


class NoLine(ReelError):
    """A desk knows no such row of words."""


class NoBack(ReelError):
    """No deed is left to be taken back."""


class NoPhase(ReelError):
    """The phase of the number `at` is none there."""

    def __init__(self, at):
        self.at = at


class Clash(ReelError):
    """The rows of the merging of the number `at` don't go one way."""

    def __init__(self, at):
        self.at = at
