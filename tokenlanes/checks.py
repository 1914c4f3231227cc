"""Checks of the arguments that many functions share."""

from tokenlanes.boards import is_setting
from tokenlanes.errors import InvalidAmounts, InvalidLane, InvalidSetting
from tokenlanes.kinds import is_between, is_list_between

GREATEST = 10 ** 30


def check_lane(board, value):
    """Raise InvalidLane if any value is not a lane of the board."""
    if not is_between(value, 0, board.lane_count - 1):
        raise InvalidLane("not a lane of the board")


def check_amounts(board, value):
    """Raise InvalidAmounts if any value is not a list of amounts for the board."""
    if not is_list_between(value, -GREATEST, GREATEST) or len(value) != board.lane_count:
        raise InvalidAmounts("not a list of amounts for the board")


def chosen_setting(board, start):
    """Return a new list of the pointers of a start, raise InvalidSetting if there is none."""
    if start is None:
        return [0] * len(board)
    if not is_setting(board, start):
        raise InvalidSetting("not a setting of the board")
    return list(start)
