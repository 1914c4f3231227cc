"""The texts of boards and settings."""

from tokenlanes.boards import DIGITS, Board, check_board, is_setting
from tokenlanes.checks import check_setting
from tokenlanes.errors import InvalidText

# The text of the setting of a board without gates.
NO_POINTERS = "-"


def show_board(board):
    """Return the text of a board."""
    check_board(board)
    words = [f"{board.lane_count}:"] + [f"{first}-{second}" for first, second in board.gate_list]
    return " ".join(words)


def read_board(text):
    """Return the board with a text."""
    return Board.read(text)


def show_setting(board, setting):
    """Return the text of a setting."""
    check_board(board)
    check_setting(board, setting)
    if not setting:
        return NO_POINTERS
    return "".join([str(pointer) for pointer in setting])


def read_setting(board, text):
    """Return the setting of a board with a text."""
    check_board(board)
    if not isinstance(text, str):
        raise InvalidText("not a text")
    pointers = [DIGITS.find(sign) for sign in text if sign != NO_POINTERS]
    # A setting has one text only, so no other way to write its pointers is read.
    if not is_setting(board, pointers) or show_setting(board, pointers) != text:
        raise InvalidText("no setting of the board has this text")
    return pointers
