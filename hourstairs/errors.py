"""The refusals of the package.

Their words are fixed and hold none of the values: Python refuses to write out
a whole number of more than some thousand figures, and a moment may have more.
"""


class HourError(ValueError):
    """Whatever the package refuses."""


class NoText(HourError):
    """What was to be read is not the text of anything."""


class Overtaken(HourError):
    """Rides without waiting, on which one who sets out at `second` overtakes one at `first`."""

    def __init__(self, first, second):
        HourError.__init__(self, "one who sets out later is there sooner")
        self.first = first
        self.second = second


class NotRight(HourError):
    """A net whose tie `name` has no stair: one at `second` overtakes one at `first`."""

    def __init__(self, name, first, second):
        HourError.__init__(self, "a tie of the net has no stair")
        self.name = name
        self.first = first
        self.second = second


class NoTie(HourError):
    """A net has no tie `name`."""

    def __init__(self, name):
        HourError.__init__(self, "the net has no such tie")
        self.name = name


class NoDay(HourError):
    """The tie `name` does not let the net come again day by day."""

    def __init__(self, name):
        HourError.__init__(self, "a tie of the net does not come again by days")
        self.name = name
