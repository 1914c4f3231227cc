"""What seen tokens tell about the setting that a board had before them."""

from tokenlanes.boards import check_board
from tokenlanes.checks import check_few_gates, check_lane
from tokenlanes.errors import Contradiction, InvalidSeen
from tokenlanes.kinds import is_lane_pair
from tokenlanes.moves import moves_of, setting_of


def possible_starts(board, seen):
    """Return the ascending list of all starts of seen tokens."""
    check_board(board)
    check_seen(board, seen)
    check_few_gates(board)
    try:
        return starts_of(board, seen)
    except Contradiction:
        return []


def certain_pointers(board, seen):
    """Return for each gate its pointer at the beginning, None if the starts differ in it."""
    check_board(board)
    check_seen(board, seen)
    check_few_gates(board)
    starts = starts_of(board, seen)
    return [pointers[0] if min(pointers) == max(pointers) else None for pointers in zip(*starts)]


def possible_exits(board, seen, lane):
    """Return the ascending list of the lanes on which a further token can leave."""
    check_board(board)
    check_seen(board, seen)
    check_lane(board, lane)
    check_few_gates(board)
    moves = moves_of(board)
    return sorted({moves[now][lane][0] for _, now in runs_as_seen(moves, seen)})


def check_seen(board, value):
    """Raise InvalidSeen if any value is not a list of seen tokens."""
    if not isinstance(value, list) or not all([is_lane_pair(item, board.lane_count) for item in value]):
        raise InvalidSeen("not a list of seen tokens")


def starts_of(board, seen):
    """Return the ascending list of all starts, raise Contradiction if there are none."""
    return [setting_of(board, number) for number, _ in runs_as_seen(moves_of(board), seen)]


def runs_as_seen(moves, seen):
    """Return the tuples of a start and the setting after the seen tokens, by their numbers.

    They are in ascending order. Contradiction is raised if there are none.
    """
    runs = [(number, number) for number in range(len(moves))]
    for index, (entry, way_out) in enumerate(seen):
        told = [(start, moves[now][entry]) for start, now in runs]
        runs = [(start, after) for start, (left_on, after) in told if left_on == way_out]
        if not runs:
            raise Contradiction(index)
    return runs
