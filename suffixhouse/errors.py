"""The errors of the program. Each one tells with an integer where the fault is."""


class HouseError(ValueError):
    """The base class of all errors of the program."""

    def __init__(self, at):
        self.at = at
        # The number itself is the message, but Python refuses to write out
        # integers of thousands of digits.
        if at.bit_length() > 1000:
            ValueError.__init__(self, "at a very large number")


class BadLine(HouseError):
    """A line has no newline, or does not begin with a number and a colon."""


class BadText(HouseError):
    """A text is too long or has a character that is no letter."""


class WrongOrder(HouseError):
    """A number is not greater than the one before it."""


class TooMany(HouseError):
    """A house would have more texts than it may."""


class TakenNumber(HouseError):
    """A number has a text already."""


class NoText(HouseError):
    """There is no text or no end of this kind."""


class OutOfRange(HouseError):
    """A value is not in its range."""


class BadStep(HouseError):
    """A step of an alignment does not fit."""


class NoChange(HouseError):
    """There is no change to undo."""
