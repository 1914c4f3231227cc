"""All errors of the package, also those that only some of its parts raise."""


class LaneError(ValueError):
    """The base class of all errors that the package raises."""


class InvalidLanes(LaneError):
    """The number of lanes of a board is wrong."""


class InvalidBoard(LaneError):
    """A value is not a board."""


class InvalidPower(LaneError):
    """There is no full board of this power."""


class InvalidLane(LaneError):
    """A value is not a lane of the board."""


class InvalidSetting(LaneError):
    """A value is not a setting of the board."""


class InvalidEntries(LaneError):
    """A value is not a list of lanes of the board."""


class InvalidAmounts(LaneError):
    """A value is not a list of amounts for the board."""


class InvalidNumber(LaneError):
    """A value is not the index of a token."""


class InvalidSeen(LaneError):
    """A value is not a list of seen tokens of the board."""


class InvalidTicket(LaneError):
    """A value is not the ticket of a token or return on the board."""


class InvalidText(LaneError):
    """A value is not the text of what is to be read."""


class InvalidCommand(LaneError):
    """A value is not a command of a desk."""


class Different(LaneError):
    """Two boards differ in their numbers of lanes."""


class NoFlow(LaneError):
    """A command needs a flow, and the desk has none."""


class NothingToUndo(LaneError):
    """A flow has no change that could be reverted."""


class ReturnInside(LaneError):
    """A return is on the board where only tokens may be."""


class InvalidGate(LaneError):
    """An item of a list of gates is wrong, or (None) there is no such list."""

    def __init__(self, index):
        LaneError.__init__(self, f"not a gate of the board: item {index}")
        self.index = index


class TooLarge(LaneError):
    """There are more gates or tokens than a limit allows."""

    def __init__(self, limit):
        LaneError.__init__(self, f"more than {limit}")
        self.limit = limit


class Contradiction(LaneError):
    """Seen tokens have no start from a certain one on."""

    def __init__(self, index):
        LaneError.__init__(self, f"no start up to the token {index}")
        self.index = index
