"""The refusals of laidround."""


class LaidError(ValueError):
    """Any refusal."""


class NoSpiral(LaidError):
    """A text that writes no spiral."""


class NoBox(LaidError):
    """A quadruple that is no box."""


class NoAsk(LaidError):
    """A line that asks nothing of the desk."""


class NoNumber(LaidError):
    """A number that is not there for what is asked; it is kept as `number`."""

    def __init__(self, number):
        super().__init__(f"no such number: {number}")
        self.number = number
