"""Wrong arguments of the functions of passing.py, alone and several at the same time."""

import itertools
import unittest

from samples import HUGE, NOT_BOARDS, NOT_INTEGERS, NOT_LISTS, bare, full, raised
from tokenlanes.boards import Board
from tokenlanes.passing import amounts_after, exit_of, numbers_of, run_tokens, walk_exits


def first_exit(board, lane, **named):
    return next(walk_exits(board, lane, **named))


class WrongArguments(unittest.TestCase):
    def test_boards(self):
        calls = [(run_tokens, [[]]), (numbers_of, [[]]), (amounts_after, [[]]), (exit_of, [0, 0]), (first_exit, [0])]
        for wrong in NOT_BOARDS:
            for call, values in calls:
                with self.subTest(call=call.__name__, wrong=wrong):
                    self.assertEqual(raised(call, wrong, *values), ("InvalidBoard", {}))

    def test_entries(self):
        lists = [[wrong] for wrong in [4, -1, -4, 5, HUGE, -HUGE] + NOT_INTEGERS]
        lists += [[0, wrong, 3] for wrong in [4, -1, True, None]] + [[0] * 399 + [4], [0] * 399 + [False]]
        for wrong in lists + NOT_LISTS:
            for call in [run_tokens, numbers_of]:
                with self.subTest(call=call.__name__, wrong=wrong):
                    self.assertEqual(raised(call, full, wrong), ("InvalidEntries", {}))

    def test_lanes_of_entries_depend_on_the_board(self):
        for lanes in range(2, 9):
            board = Board(lanes, [])
            self.assertEqual(run_tokens(board, [lanes - 1]), ([lanes - 1], []))
            for call in [run_tokens, numbers_of]:
                self.assertEqual(raised(call, board, [lanes]), ("InvalidEntries", {}))

    def test_amounts(self):
        lists = [[], [0], [0] * 3, [0] * 5, [0] * 400]
        for place in range(4):
            for item in [HUGE + 1, -HUGE - 1, HUGE * 10, -HUGE * 10] + NOT_INTEGERS:
                lists.append([0] * place + [item] + [0] * (3 - place))
        for wrong in lists + NOT_LISTS + [(0, 0, 0, 0)]:
            with self.subTest(wrong=wrong):
                self.assertEqual(raised(amounts_after, full, wrong), ("InvalidAmounts", {}))
        self.assertEqual(raised(amounts_after, bare, (0, 0)), ("InvalidAmounts", {}))
        self.assertEqual(raised(amounts_after, bare, []), ("InvalidAmounts", {}))

    def test_lanes(self):
        for wrong in [4, -1, -4, 8, HUGE, -HUGE] + NOT_INTEGERS:
            with self.subTest(wrong=wrong):
                self.assertEqual(raised(exit_of, full, wrong, 0), ("InvalidLane", {}))
                self.assertEqual(raised(first_exit, full, wrong), ("InvalidLane", {}))

    def test_numbers(self):
        for wrong in [-1, -2, -HUGE, HUGE + 1, HUGE * 10] + NOT_INTEGERS:
            for board in [full, bare]:
                with self.subTest(wrong=wrong):
                    self.assertEqual(raised(exit_of, board, 0, wrong), ("InvalidNumber", {}))

    def test_starts(self):
        pointers = [2, -1, HUGE] + NOT_INTEGERS
        lists = [[], [0], [0] * 5, [0] * 7, [0] * 400] + [[0, 1, 0, pointer, 0, 1] for pointer in pointers]
        not_lists = [wrong for wrong in NOT_LISTS if wrong is not None]
        for wrong in lists + not_lists + [(0,) * 6, "000000", [(0, 0, 0, 0, 0, 0)], [[0] * 6]]:
            for call, values in self.calls(4):
                with self.subTest(call=call.__name__, wrong=wrong):
                    self.assertEqual(raised(call, full, *values, start=wrong), ("InvalidSetting", {}))

    def test_starts_of_a_board_without_gates(self):
        for wrong in [wrong for wrong in NOT_LISTS if wrong is not None] + [[0], [[]], [None]]:
            for call, values in self.calls(2):
                with self.subTest(call=call.__name__, wrong=wrong):
                    self.assertEqual(raised(call, bare, *values, start=wrong), ("InvalidSetting", {}))

    def calls(self, lanes):
        return [
            (run_tokens, [[0]]), (run_tokens, [[]]), (numbers_of, [[0]]), (numbers_of, [[]]),
            (amounts_after, [[0] * lanes]), (exit_of, [0, 0]), (exit_of, [1, HUGE]), (first_exit, [0]),
        ]


class ErrorOrder(unittest.TestCase):
    """If several arguments are wrong, the error that the interface lists first is raised."""

    def test_board_then_the_others_in_their_order_then_start(self):
        told = [
            (run_tokens, [(None, "InvalidBoard"), ([4], "InvalidEntries")]),
            (numbers_of, [(None, "InvalidBoard"), ((), "InvalidEntries")]),
            (amounts_after, [(None, "InvalidBoard"), ([0], "InvalidAmounts")]),
            (exit_of, [(None, "InvalidBoard"), (4, "InvalidLane"), (-1, "InvalidNumber")]),
            (first_exit, [(None, "InvalidBoard"), (True, "InvalidLane")]),
        ]
        good = {run_tokens: [[0]], numbers_of: [[0]], amounts_after: [[0] * 4], exit_of: [0, 0], first_exit: [0]}
        for call, places in told:
            right = [full] + good[call]
            for chosen in itertools.product([False, True], repeat=len(places) + 1):
                values = [place[0] if wrong else value for place, value, wrong in zip(places, right, chosen)]
                start = [0] * 5 if chosen[-1] else None
                names = [place[1] for place, wrong in zip(places, chosen) if wrong]
                names += ["InvalidSetting"] * chosen[-1]
                with self.subTest(call=call.__name__, chosen=chosen):
                    found = raised(call, *values, start=start)
                    self.assertEqual(found, (names[0], {}) if names else None)


if __name__ == "__main__":
    unittest.main()
