"""The errors that the package raises.

Those that are made with an argument keep it, just as it was passed, as an
attribute of the same name. Their words are the same whatever was passed, as
some values cannot be shown in words (integers of very many digits).
"""


class SwapError(ValueError):
    """All errors of the package are of this class."""


class Unfit(SwapError):
    """What was asked for is not there, or does not fit."""


class BadText(SwapError):
    """The value is the text of no net."""


class Apart(SwapError):
    """The net is not joined."""


class Barred(SwapError):
    """The one standing does not come to the other one, as the paper tells."""

    def __init__(self, paper):
        super().__init__("the standing does not come to the other one")
        self.paper = paper


class NoWay(SwapError):
    """No way through the lots leads there; these are all entries."""

    def __init__(self, entries):
        super().__init__("no way through the lots leads there")
        self.entries = entries


class BadNet(SwapError):
    """The value is no net; the error is what net_error tells of it."""

    def __init__(self, error):
        super().__init__("the value is no net")
        self.error = error


class BadStanding(SwapError):
    """The value is no standing; the error is what standing_error tells of it."""

    def __init__(self, error):
        super().__init__("the value is no standing")
        self.error = error


class TooManyEdits(SwapError):
    """As many edits stand as may stand."""


class NothingToUndo(SwapError):
    """No edit stands that could be taken back."""


class NothingToRedo(SwapError):
    """No edit that was taken back could be done again."""


class NoVersion(SwapError):
    """The desk has no such version as was given."""

    def __init__(self, given):
        super().__init__("the desk has no such version")
        self.given = given


class BadLog(SwapError):
    """The log cannot be done; the place is that of its first bad item."""

    def __init__(self, place):
        super().__init__("the log cannot be done")
        self.place = place
