"""Wrong arguments of settings.py, counting.py and alike.py, alone and several at the same time."""

import itertools
import unittest

from samples import HUGE, NOT_BOARDS, NOT_INTEGERS, NOT_LISTS, bare, full, raised, three, widest
from tokenlanes.alike import alike_settings, are_alike, parting_entries
from tokenlanes.boards import Board
from tokenlanes.counting import failing_entries, is_counting
from tokenlanes.settings import classes_of, fewest_tokens, reachable

TOO_LARGE = ("TooLarge", {"limit": 8})
STARTING = [reachable, is_counting, failing_entries]
WITHOUT_START = [classes_of, alike_settings]
COMPARING = [are_alike, parting_entries]
EIGHT = Board(4, full.gate_list + [(0, 1), (2, 3)])
NINE = Board(4, full.gate_list + [(0, 1), (2, 3), (0, 1)])
WHOLE = Board(4, full.gate_list * 4)


def to_start(board, *, start=None):
    return fewest_tokens(board, [0] * len(board), start=start)


def wrong_settings(many):
    """Return values that are no settings of a board with this many gates; None is not among them."""
    lists = [[0] * length for length in [0, 1, many - 1, many + 1, 24, 400] if length not in (many, -1)]
    if many > 0:
        lists += [[0] * (many - 1) + [pointer] for pointer in [2, -1, HUGE] + NOT_INTEGERS]
        lists += [[pointer] + [1] * (many - 1) for pointer in [2, -1, HUGE] + NOT_INTEGERS]
    return lists + [value for value in NOT_LISTS if value is not None] + [(0,) * many, "0" * many, [[0] * many]]


class WrongArguments(unittest.TestCase):
    def test_boards(self):
        for wrong in NOT_BOARDS:
            for call in STARTING + WITHOUT_START:
                with self.subTest(call=call.__name__, wrong=wrong):
                    self.assertEqual(raised(call, wrong), ("InvalidBoard", {}))
            self.assertEqual(raised(fewest_tokens, wrong, [0] * 6), ("InvalidBoard", {}))
            for call in COMPARING:
                for board, other in [(wrong, full), (full, wrong), (wrong, wrong), (wrong, WHOLE), (WHOLE, wrong)]:
                    with self.subTest(call=call.__name__, wrong=wrong):
                        self.assertEqual(raised(call, board, other), ("InvalidBoard", {}))

    def test_starts(self):
        for board in [bare, three, full, EIGHT, NINE, WHOLE]:
            for wrong in wrong_settings(len(board)):
                for call in STARTING + [to_start]:
                    with self.subTest(call=call.__name__, wrong=wrong, gates=len(board)):
                        self.assertEqual(raised(call, board, start=wrong), ("InvalidSetting", {}))

    def test_starts_of_two_boards(self):
        for wrong in wrong_settings(6):
            for call in COMPARING:
                with self.subTest(call=call.__name__, wrong=wrong):
                    self.assertEqual(raised(call, full, EIGHT, start=wrong), ("InvalidSetting", {}))
                    self.assertEqual(raised(call, NINE, full, other_start=wrong), ("InvalidSetting", {}))
                    self.assertEqual(raised(call, full, full, start=wrong, other_start=wrong), ("InvalidSetting", {}))

    def test_each_start_belongs_to_its_board(self):
        for call in COMPARING:
            self.assertIsNone(raised(call, full, EIGHT, start=[0] * 6, other_start=[0] * 8))
            self.assertEqual(raised(call, full, EIGHT, start=[0] * 8), ("InvalidSetting", {}))
            self.assertEqual(raised(call, full, EIGHT, other_start=[0] * 6), ("InvalidSetting", {}))
            self.assertEqual(raised(call, full, EIGHT, start=[0] * 8, other_start=[0] * 6), ("InvalidSetting", {}))

    def test_goals(self):
        for board in [bare, three, full, EIGHT, NINE, WHOLE]:
            for wrong in wrong_settings(len(board)) + [None]:
                with self.subTest(wrong=wrong, gates=len(board)):
                    self.assertEqual(raised(fewest_tokens, board, wrong), ("InvalidSetting", {}))
                    self.assertEqual(raised(fewest_tokens, board, wrong, start=wrong), ("InvalidSetting", {}))

    def test_different_numbers_of_lanes(self):
        for call in COMPARING:
            for board, other in [(full, three), (bare, Board(8, [])), (WHOLE, widest), (three, widest), (WHOLE, bare)]:
                for start in [None, [0] * 7, "0"]:
                    found = raised(call, board, other, start=start, other_start=start)
                    self.assertEqual(found, ("Different", {}))

    def test_too_many_gates(self):
        for many in [9, 10, 23, 24]:
            board = Board(2, [(0, 1)] * many)
            for call in STARTING + WITHOUT_START + [to_start]:
                self.assertEqual(raised(call, board), TOO_LARGE)
            for call in STARTING + [to_start]:
                self.assertEqual(raised(call, board, start=[1] * many), TOO_LARGE)
            for call in COMPARING:
                small = Board(2, [(0, 1)] * 8)
                for one, other in [(board, small), (small, board), (board, board), (board, bare), (bare, board)]:
                    self.assertEqual(raised(call, one, other), TOO_LARGE)
                self.assertEqual(raised(call, small, board, start=[1] * 8, other_start=[1] * many), TOO_LARGE)
        for lanes in range(2, 9):
            for call in STARTING + WITHOUT_START + [to_start]:
                self.assertEqual(raised(call, Board(lanes, [(0, 1)] * 9)), TOO_LARGE)

    def test_eight_gates_are_not_too_many(self):
        for board in [EIGHT, Board(2, [(1, 0)] * 8), Board(8, [(0, 7)] * 8)]:
            for call in STARTING + WITHOUT_START + [to_start]:
                self.assertIsNone(raised(call, board))
            for call in STARTING + [to_start]:
                self.assertIsNone(raised(call, board, start=[1] * 8))
            for call in COMPARING:
                self.assertIsNone(raised(call, board, board, start=[1] * 8))


class ErrorOrder(unittest.TestCase):
    """If several arguments are wrong, the error that the interface lists first is raised."""

    def test_board_then_start_then_size(self):
        for board, start in itertools.product([None, full, NINE, WHOLE], [None, "00", [0] * 7, [2] * 9, [0] * 23]):
            if board is None:
                expected = ("InvalidBoard", {})
            elif start is not None:
                expected = ("InvalidSetting", {})
            else:
                expected = None if board is full else TOO_LARGE
            for call in STARTING:
                with self.subTest(call=call.__name__, start=start):
                    self.assertEqual(raised(call, board, start=start), expected)

    def test_board_then_goal_then_start_then_size(self):
        for board, right, wrong in itertools.product([None, full, NINE], [False, True], [False, True]):
            many = 6 if board is None else len(board)
            goal = [0] * many if right else [0] * (many + 1)
            start = [0] * (many - 1) if wrong else [1] * many
            if board is None:
                expected = ("InvalidBoard", {})
            elif not right or wrong:
                expected = ("InvalidSetting", {})
            else:
                expected = None if board is full else TOO_LARGE
            with self.subTest(goal=goal, start=start):
                self.assertEqual(raised(fewest_tokens, board, goal, start=start), expected)

    def test_boards_then_lanes_then_starts_then_size(self):
        boards = [None, "4:", full, NINE, three, widest]
        for board, other in itertools.product(boards, repeat=2):
            for start, other_start in itertools.product([None, "0", [0] * 40], repeat=2):
                if not isinstance(board, Board) or not isinstance(other, Board):
                    expected = ("InvalidBoard", {})
                elif board.lane_count != other.lane_count:
                    expected = ("Different", {})
                elif start is not None or other_start is not None:
                    expected = ("InvalidSetting", {})
                else:
                    expected = TOO_LARGE if max(len(board), len(other)) > 8 else None
                for call in COMPARING:
                    found = raised(call, board, other, start=start, other_start=other_start)
                    self.assertEqual(found, expected)


if __name__ == "__main__":
    unittest.main()
