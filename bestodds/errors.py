"""The errors of the package."""


class BestoddsError(ValueError):
    """The base class of all errors of the package."""


class InvalidRatio(BestoddsError):
    """A text is not a fraction."""


class InvalidLine(BestoddsError):
    """A line of a written system cannot be read."""

    def __init__(self, number):
        self.number = number


class InvalidSystem(BestoddsError):
    """A system is not valid."""

    def __init__(self, fault):
        self.fault = fault


class InvalidWord(BestoddsError):
    """A word of a written sentence cannot be read."""

    def __init__(self, number):
        self.number = number


class SentenceTooLarge(BestoddsError):
    """A sentence would have more than 40 lines."""


class WeightTooGreat(BestoddsError):
    """A quotient would not be a valid system."""


class BenchError(BestoddsError):
    """The base class of the errors that only benches raise."""


class NoSuchState(BenchError):
    """There is no such state."""

    def __init__(self, state):
        self.state = state


class NoSuchChoice(BenchError):
    """There is no such choice."""

    def __init__(self, number):
        self.number = number


class TooManyChanges(BenchError):
    """There are 100 changes that can be undone."""


class InvalidName(BenchError):
    """A name does not have the form of a name."""

    def __init__(self, name):
        self.name = name


class TooManyWishes(BenchError):
    """There are 8 other names."""


class UnknownName(BenchError):
    """A name is not kept."""

    def __init__(self, name):
        self.name = name
