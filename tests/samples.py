"""Boards, wrong values and small helpers that several tests share."""

import random

from tokenlanes.boards import Board
from tokenlanes.errors import LaneError

FULL_ONE = [(0, 1)]
FULL_TWO = [(0, 1), (2, 3), (0, 3), (1, 2), (0, 1), (2, 3)]
FULL_THREE = [
    (0, 1), (2, 3), (0, 3), (1, 2), (0, 1), (2, 3),
    (4, 5), (6, 7), (4, 7), (5, 6), (4, 5), (6, 7),
    (0, 7), (1, 6), (2, 5), (3, 4),
    (0, 2), (1, 3), (4, 6), (5, 7),
    (0, 1), (2, 3), (4, 5), (6, 7),
]
HUGE = 10 ** 30

full = Board(4, FULL_TWO)
three = Board(3, [(0, 1), (1, 2), (0, 1)])
bare = Board(2, [])
widest = Board(8, [(lane, 7 - lane) for lane in range(8)] * 3)


def nested(value, depth):
    """Return a value inside of as many lists."""
    for _ in range(depth):
        value = [value]
    return value


NOT_INTEGERS = [
    None, True, False, "0", "1", "2", "", b"2", (), (2,), [], [2], {}, {2: 2}, {2},
    frozenset([2]), object(), int, range(2), nested(0, 20),
]
NOT_LISTS = [
    None, True, False, 0, 1, "", "0", "00", b"00", (), (0,), (0, 1), (0, 0, 0), ((0, 1),),
    {}, {0: 0}, set(), {0, 1}, frozenset(), object(), list, range(2),
]
NOT_BOARDS = [
    None, True, 0, 2, "2:", "2: 0-1", b"2:", [], [(0, 1)], (2, []), (2, [(0, 1)]), {}, set(),
    object(), Board, Board.full, nested([], 19),
]


def raised(call, *values, **named):
    """Return the class and the fields of the error of the package that a call raises."""
    try:
        call(*values, **named)
    except LaneError as error:
        return type(error).__name__, vars(error)
    return None


def random_board(chance, most_gates=24):
    """Return a board whose size and gates are drawn."""
    lanes = chance.randint(2, 8)
    gates = [tuple(chance.sample(range(lanes), 2)) for _ in range(chance.randint(0, most_gates))]
    return Board(lanes, gates)


def random_setting(chance, board):
    """Return a setting of a board that is drawn."""
    return [chance.randint(0, 1) for _ in range(len(board))]


def random_cases(seed, many, most_gates=24):
    """Yield a source of chance, a board and a setting, the same ones for the same seed."""
    chance = random.Random(seed)
    for _ in range(many):
        board = random_board(chance, most_gates)
        yield chance, board, random_setting(chance, board)


def all_settings(board):
    """Return all settings of a board in ascending order."""
    settings = [[]]
    for _ in range(len(board)):
        settings = [[*setting, pointer] for setting in settings for pointer in (0, 1)]
    return settings
