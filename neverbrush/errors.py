"""The errors that the package raises."""


class NoCrossing(LookupError):
    """A number that is no crossing of the city."""

    def __init__(self, crossing):
        self.crossing = crossing


class NoRoad(LookupError):
    """A road that is not among those asked for."""

    def __init__(self, road):
        self.road = road


class NoStretch(LookupError):
    """A stretch that is not among those asked for."""

    def __init__(self, stretch):
        self.stretch = stretch


class NothingDone(LookupError):
    """Nothing is there to be taken back, or to be done once more."""


class BadText(ValueError):
    """A text with a fault; line tells where, counted from 0."""

    def __init__(self, line):
        self.line = line


class Broken(ValueError):
    """A row of steps one of which does not lead on; number tells which, counted from 0."""

    def __init__(self, number):
        self.number = number


class CanNot(ValueError):
    """What was asked for does not exist."""


class TooMany(ValueError):
    """More results than are listed."""


class Unfit(ValueError):
    """An argument that is not of the kind stated."""
