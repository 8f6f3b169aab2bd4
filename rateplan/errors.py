"""The errors: what is refused, one class for each kind of refusal."""


class NoText(ValueError):
    """A text is none that is read here; at is the number of its first line that is none such."""

    def __init__(self, at):
        ValueError.__init__(self, at)
        self.at = at


class TooMany(ValueError):
    """There are more than limit of what is gone through."""

    def __init__(self, limit):
        ValueError.__init__(self, limit)
        self.limit = limit


class Unlike(ValueError):
    """Two numbers, one and other, that had to be alike are not."""

    def __init__(self, one, other):
        ValueError.__init__(self, one, other)
        self.one = one
        self.other = other


class NoSpeed(ArithmeticError):
    """A mean of no speeds was asked for."""

    def __init__(self):
        ArithmeticError.__init__(self)


class RateError(Exception):
    """A thing is refused; thing is what it was."""

    def __init__(self, thing):
        Exception.__init__(self, thing)
        self.thing = thing


class NoBeat(RateError):
    """The thing is no beat of the talk."""


class NoRoom(RateError):
    """The thing is the number of a stretch that is longer than the store."""


class NotNow(RateError):
    """The thing is a stand in which this isn't to be done."""


class NoRate(RateError):
    """The thing is no rate of the talk."""


class NoPace(RateError):
    """The thing is no beat, or no speed of one, that can be told."""


class NoName(RateError):
    """The thing is a name under which nothing of the sort is kept."""


class NoFit(RateError):
    """The thing is a name of what doesn't fit the rest."""
