"""Wrong arguments of the functions of hidden.py, alone and several at the same time."""

import itertools
import unittest

from samples import HUGE, NOT_BOARDS, NOT_INTEGERS, NOT_LISTS, bare, full, nested, raised
from tokenlanes.boards import Board
from tokenlanes.hidden import certain_pointers, possible_exits, possible_starts

TOO_LARGE = ("TooLarge", {"limit": 8})
INVALID_SEEN = ("InvalidSeen", {})
NINE = Board(4, full.gate_list + [(0, 1), (2, 3), (0, 1)])
WHOLE = Board(4, full.gate_list * 4)


def exits_on_0(board, seen):
    return possible_exits(board, seen, 0)


CALLS = [possible_starts, certain_pointers, exits_on_0]
NOT_SEEN = [
    (), (0,), (0, 0, 0), (0, 4), (4, 0), (-1, 0), (0, -1), (0, True), (False, 0), (0, None), (None, None), ("0", "0"),
    (HUGE, 0), (0, -HUGE), [0, 0], [(0, 0)], ((0, 0),), ((0, 0), 0), (0, [0]), "00", b"00", 0, None, True, {0: 0}, {0},
    range(2), object(), nested((0, 0), 18), (0, nested(0, 17)),
]


class WrongArguments(unittest.TestCase):
    def test_boards(self):
        for wrong in NOT_BOARDS:
            for call in CALLS:
                for seen in [[], None, [(0, 0)]]:
                    with self.subTest(call=call.__name__, wrong=wrong):
                        self.assertEqual(raised(call, wrong, seen), ("InvalidBoard", {}))

    def test_seen_tokens(self):
        lists = [[wrong] for wrong in NOT_SEEN] + [[(0, 0), wrong] for wrong in NOT_SEEN]
        lists += [[(0, 0)] * 399 + [wrong] for wrong in [None, (0, 4), (0, 0, 0), [0, 0]]]
        for wrong in lists + NOT_LISTS + [((0, 0),), ([0, 0],), {(0, 0): (0, 0)}, {(0, 0)}]:
            for board in [full, NINE]:
                for call in CALLS:
                    with self.subTest(call=call.__name__, wrong=wrong):
                        self.assertEqual(raised(call, board, wrong), INVALID_SEEN)

    def test_lanes_of_seen_tokens_depend_on_the_board(self):
        for lanes in range(2, 9):
            board = Board(lanes, [])
            self.assertEqual(possible_starts(board, [(lanes - 1, lanes - 1)]), [[]])
            for call in CALLS:
                self.assertEqual(raised(call, board, [(lanes, 0)]), INVALID_SEEN)
                self.assertEqual(raised(call, board, [(0, lanes)]), INVALID_SEEN)

    def test_wrong_tokens_behind_a_contradiction(self):
        for call in CALLS:
            self.assertEqual(raised(call, bare, [(0, 1), (0, 2)]), INVALID_SEEN)

    def test_lanes(self):
        for board in [bare, full, NINE]:
            for wrong in [board.lane_count, -1, 8, HUGE, -HUGE] + NOT_INTEGERS:
                for seen in [[], [(0, 0)], [(0, 1)] * 9]:
                    with self.subTest(wrong=wrong, seen=seen):
                        self.assertEqual(raised(possible_exits, board, seen, wrong), ("InvalidLane", {}))

    def test_too_many_gates(self):
        for many in [9, 10, 24]:
            board = Board(2, [(0, 1)] * many)
            for seen in [[], [(0, 0)], [(0, 0)] * 9]:
                for call in CALLS:
                    self.assertEqual(raised(call, board, seen), TOO_LARGE)
        for board in [Board(2, [(1, 0)] * 8), Board(8, [(0, 7)] * 8)]:
            for call in CALLS:
                self.assertIsNone(raised(call, board, []))


class ErrorOrder(unittest.TestCase):
    """If several arguments are wrong, the error that the interface lists first is raised."""

    def test_board_then_seen_then_lane_then_size_then_contradiction(self):
        boards = [None, "4:", full, NINE, WHOLE]
        lists = [[], [(2, 3)] * 9, [(0, 4)], None, ((0, 0),)]
        for board, seen, lane in itertools.product(boards, lists, [0, 4, True, "0"]):
            expected = None
            if not isinstance(board, Board):
                expected = ("InvalidBoard", {})
            elif seen not in lists[:2]:
                expected = INVALID_SEEN
            elif len(board) > 8:
                expected = TOO_LARGE
            elif seen == lists[1]:
                # Both pass the last gate on their lanes, which does not send both to lane 3.
                expected = ("Contradiction", {"index": 1})
            wrong_lane = isinstance(board, Board) and seen in lists[:2] and (lane is True or lane != 0)
            with self.subTest(board=board, seen=seen, lane=lane):
                found = raised(possible_exits, board, seen, lane)
                self.assertEqual(found, ("InvalidLane", {}) if wrong_lane else expected)
                self.assertEqual(raised(certain_pointers, board, seen), expected)
                without = None if expected is not None and expected[0] == "Contradiction" else expected
                self.assertEqual(raised(possible_starts, board, seen), without)


if __name__ == "__main__":
    unittest.main()
