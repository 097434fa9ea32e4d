"""The errors of the package: each keeps what it was made with in an attribute."""


class PullError(Exception):
    """The base class of all errors of the package."""


class BadValue(PullError):
    """The argument at a position is not as described."""

    def __init__(self, at):
        self.at = at


class BadText(PullError):
    """A text is wrong from a line on."""

    def __init__(self, at):
        self.at = at


class BadGrounds(PullError):
    """Told grounds are wrong at a pair."""

    def __init__(self, at):
        self.at = at


class NoPort(PullError):
    """A path does not lead to a port that can be used."""

    def __init__(self, path):
        self.path = path


class NoName(PullError):
    """Nothing on the bus has the name."""

    def __init__(self, name):
        self.name = name


class NoDriver(PullError):
    """There is no driver for the word."""

    def __init__(self, word):
        self.word = word


class NotNow(PullError):
    """The event cannot happen now."""

    def __init__(self, event):
        self.event = event


class TooMany(PullError):
    """There is no room for more."""
