"""The refusals: each one stands straight under HillError."""


class HillError(ValueError):
    """Whatever the program refuses."""


class NoHill(HillError):
    """This is no hill."""


class NoPage(HillError):
    """This is no page of the hill."""


class Twice(HillError):
    """A page of this number stands already."""


class NoNumber(HillError):
    """This is no number that is asked for here."""


class NoGoer(HillError):
    """This is no goer."""


class NoPlace(HillError):
    """This is no place of the hill."""


class NoMoment(HillError):
    """This is no moment of the hill."""


class NoWay(HillError):
    """This is no way of the hill that is asked for here."""


class TooLong(HillError):
    """The day is too long for what is asked."""


class NoText(HillError):
    """This text writes nothing."""


class NoLine(HillError):
    """This is no line that the desk knows."""
