"""The errors that the functions of the package raise."""


class NoPlace(LookupError):
    """No channel has this place."""

    def __init__(self, place):
        LookupError.__init__(self, f"no channel has the place {place}")
        self.place = place


class BadText(ValueError):
    """This line of a text, counted from 1, can not stand there."""

    def __init__(self, line):
        ValueError.__init__(self, f"line {line} can not stand there")
        self.line = line


class CanNot(ValueError):
    """What is asked for is not there or can not be done."""

    def __init__(self):
        ValueError.__init__(self, "this can not be done")


class TooMuch(ValueError):
    """What is asked for is too large to be gone through."""

    def __init__(self):
        ValueError.__init__(self, "this is too much")


class Unfit(ValueError):
    """What was passed in does not fit."""

    def __init__(self):
        ValueError.__init__(self, "this does not fit")
