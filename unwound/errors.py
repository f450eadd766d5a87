"""The errors that the package raises, each for one kind of failure."""


class NoPlace(LookupError):
    """A number tells a place, a NAME or a thing that is not there."""

    def __init__(self, place):
        LookupError.__init__(self, f"there is no place {place}")
        self.place = place


class BadLine(ValueError):
    """A line of a text can not stand where it stands."""

    def __init__(self, line):
        ValueError.__init__(self, f"line {line} can not stand there")
        self.line = line


class CanNot(ValueError):
    """What is asked for does not exist."""


class TooMuch(ValueError):
    """What is asked for goes beyond a limit that the document names."""


class Unfit(ValueError):
    """The question can not be put to these values."""


class Ring(ValueError):
    """The calls of these NAMES go in a ring without a STEP."""

    def __init__(self, names):
        self.names = tuple(names)
        ValueError.__init__(self, f"calls go in a ring without a step: {self.names}")


class Endless(ValueError):
    """These NAMES can not end."""

    def __init__(self, names):
        self.names = tuple(names)
        ValueError.__init__(self, f"names that can not end: {self.names}")
