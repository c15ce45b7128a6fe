"""The errors of the package; each keeps the values that it was made with."""


class MarketError(ValueError):
    """What goes wrong with markets, bags and desks."""


class BadMarket(MarketError):
    """A value is not a market that fits; error is what market_error tells."""

    def __init__(self, error):
        self.error = error


class BadStep(MarketError):
    """The item at index is not a step, or cannot be done; -1 for the whole."""

    def __init__(self, index):
        self.index = index


class BadText(MarketError):
    """No text of a market begins with the lines up to this one."""

    def __init__(self, line):
        self.line = line


class BadBag(MarketError):
    """A value is not a bag that fits."""


class BadTimes(MarketError):
    """A value is not a number that fits."""

    def __init__(self, value):
        self.value = value


class Lacking(MarketError):
    """There is too little of a good."""

    def __init__(self, good):
        self.good = good


class NotOwed(MarketError):
    """Less of a good is owed than would be paid."""

    def __init__(self, good):
        self.good = good


class TooMuch(MarketError):
    """There would be too much of a good."""

    def __init__(self, good):
        self.good = good


class OverCap(MarketError):
    """The debt would be above the cap."""


class NothingToUndo(MarketError):
    """No deed stands."""


class NoTrade(LookupError):
    """A value is not the index of a trade."""

    def __init__(self, value):
        self.value = value
