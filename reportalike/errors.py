"""The errors of the package, each a direct subclass of one built-in class."""


class NoSheet(LookupError):
    """There is no such SHEET, or nothing tells what it holds."""

    def __init__(self, sheet):
        self.sheet = sheet


class NoStep(LookupError):
    """There is no STEP with this name."""

    def __init__(self, name):
        self.name = name


class NoSpot(LookupError):
    """This is no SPOT."""

    def __init__(self, spot):
        self.spot = spot


class NoName(LookupError):
    """There is nothing with this name."""

    def __init__(self, name):
        self.name = name


class NoNumber(LookupError):
    """There is nothing with this number."""

    def __init__(self, number):
        self.number = number


class NothingDone(LookupError):
    """There is no deed to take back."""


class Twice(ValueError):
    """There is something with this name already."""

    def __init__(self, name):
        self.name = name


class NotSound(ValueError):
    """What would come of it is not sound."""


class NoOrder(ValueError):
    """There is no such order, or this is none."""


class NoPaper(ValueError):
    """There is nothing that a paper could show."""


class BadText(ValueError):
    """This text stands for nothing."""


class BadLine(ValueError):
    """The line with this number is no request."""

    def __init__(self, number):
        self.number = number
