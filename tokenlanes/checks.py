"""Checks of the arguments that many functions share."""

from tokenlanes.boards import is_setting
from tokenlanes.errors import InvalidAmounts, InvalidLane, InvalidSetting, TooLarge
from tokenlanes.kinds import is_between, is_list_between

GREATEST = 10 ** 30
# Functions that look at all settings of a board take no more gates than this.
FEW_GATES = 8


def check_lane(board, value):
    """Raise InvalidLane if any value is not a lane of the board."""
    if not is_between(value, 0, board.lane_count - 1):
        raise InvalidLane("not a lane of the board")


def check_amounts(board, value):
    """Raise InvalidAmounts if any value is not a list of amounts for the board."""
    if not is_list_between(value, -GREATEST, GREATEST) or len(value) != board.lane_count:
        raise InvalidAmounts("not a list of amounts for the board")


def check_setting(board, value):
    """Raise InvalidSetting if any value is not a setting of the board."""
    if not is_setting(board, value):
        raise InvalidSetting("not a setting of the board")


def check_few_gates(board):
    """Raise TooLarge if the board has too many gates to look at all its settings."""
    if len(board) > FEW_GATES:
        raise TooLarge(FEW_GATES)


def chosen_setting(board, start):
    """Return a new list of the pointers of a start, raise InvalidSetting if there is none."""
    if start is None:
        return [0] * len(board)
    check_setting(board, start)
    return list(start)
