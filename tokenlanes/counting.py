"""Boards that give the numbers 0, 1, 2, .. without a gap, and how the others fail."""

from tokenlanes.boards import check_board
from tokenlanes.checks import check_few_gates, chosen_setting
from tokenlanes.moves import least_parting, moves_of, number_of


def is_counting(board, *, start=None):
    """Return whether a board counts from the start."""
    return failing_entries(board, start=start) is None


def failing_entries(board, *, start=None):
    """Return the least of the shortest lists of entries whose last token leaves on a wrong lane."""
    check_board(board)
    setting = chosen_setting(board, start)
    check_few_gates(board)
    return least_parting(moves_of(board), number_of(setting), counter_moves(board.lane_count), 0)


def counter_moves(lane_count):
    """Return the moves of what sends the tokens to the lanes by turns, wherever they enter."""
    return [[(index, (index + 1) % lane_count)] * lane_count for index in range(lane_count)]
