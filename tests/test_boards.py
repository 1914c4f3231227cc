import unittest

from samples import FULL_ONE, FULL_THREE, FULL_TWO, HUGE, NOT_BOARDS, NOT_INTEGERS, NOT_LISTS
from samples import all_settings, bare, full, raised, random_cases, three, widest
from slow_model import SlowFlow
from tokenlanes.boards import Board, is_setting

NOT_GATES = [
    None, True, 0, 1, "", "01", "0-1", b"01", [], [0, 1], (), (0,), (0, 1, 0), (0, 1, 1, 0), {}, {0: 1},
    {0, 1}, frozenset([0, 1]), object(), (0, 0), (1, 1), (0, 2), (2, 0), (0, -1), (-1, 0), (-2, -1),
    (0, True), (False, 1), (True, 0), (1, False), (False, True), (0, "1"), ("0", "1"), (None, 1), (0, None),
    ((0, 1),), ((0, 1), (0, 1)), ([0], [1]), (0, HUGE), (0, (1,)), range(2),
]


class Making(unittest.TestCase):
    def test_lanes_and_gates_are_kept(self):
        board = Board(5, [(4, 0), (0, 1), (1, 0)])
        self.assertEqual((board.lane_count, board.gate_list, len(board)), (5, [(4, 0), (0, 1), (1, 0)], 3))

    def test_all_numbers_of_lanes_from_2_to_8(self):
        for lanes in range(2, 9):
            with self.subTest(lanes=lanes):
                board = Board(lanes, [(lanes - 1, 0)])
                self.assertEqual((board.lane_count, board.gate_list), (lanes, [(lanes - 1, 0)]))

    def test_no_other_numbers_of_lanes(self):
        for lanes in [1, 9, 0, -1, -2, -8, 10, 16, HUGE, -HUGE] + NOT_INTEGERS:
            with self.subTest(lanes=lanes):
                self.assertEqual(raised(Board, lanes, []), ("InvalidLanes", {}))

    def test_0_and_24_gates(self):
        gates = FULL_TWO * 4
        self.assertEqual((len(Board(4, [])), Board(4, []).gate_list), (0, []))
        self.assertEqual((len(Board(4, gates)), Board(4, gates).gate_list), (24, gates))

    def test_the_25th_gate(self):
        for many in [25, 26, 30, 400]:
            with self.subTest(many=many):
                self.assertEqual(raised(Board, 2, [(0, 1)] * many), ("InvalidGate", {"index": 24}))

    def test_the_first_wrong_item_counts_beside_the_25th(self):
        good = [(0, 1)] * 24
        self.assertEqual(raised(Board, 2, good + [(0, 2)]), ("InvalidGate", {"index": 24}))
        self.assertEqual(raised(Board, 2, good + [(0, 1)] * 3 + [None]), ("InvalidGate", {"index": 24}))
        self.assertEqual(raised(Board, 2, good[:23] + [(0, 0), (0, 1)]), ("InvalidGate", {"index": 23}))
        self.assertEqual(raised(Board, 2, [(0, 1), None] + good + [None]), ("InvalidGate", {"index": 1}))

    def test_items_that_are_no_gates(self):
        for wrong in NOT_GATES:
            for before in [0, 1, 23]:
                with self.subTest(wrong=wrong, before=before):
                    gates = [(0, 1)] * before + [wrong, (0, 1), wrong]
                    self.assertEqual(raised(Board, 2, gates), ("InvalidGate", {"index": before}))

    def test_lanes_of_gates_are_below_the_number_of_lanes(self):
        for lanes in range(2, 9):
            with self.subTest(lanes=lanes):
                self.assertEqual(raised(Board, lanes, [(0, lanes)]), ("InvalidGate", {"index": 0}))
                self.assertEqual(raised(Board, lanes, [(lanes, 0)]), ("InvalidGate", {"index": 0}))

    def test_gates_that_are_no_list(self):
        for wrong in NOT_LISTS:
            with self.subTest(wrong=wrong):
                self.assertEqual(raised(Board, 2, wrong), ("InvalidGate", {"index": None}))

    def test_lanes_are_checked_before_gates(self):
        for lanes in [1, 9, True, None]:
            for gates in [None, (), [None], [(0, 1)] * 25]:
                with self.subTest(lanes=lanes, gates=gates):
                    self.assertEqual(raised(Board, lanes, gates), ("InvalidLanes", {}))


class Full(unittest.TestCase):
    def test_gates_of_the_full_boards(self):
        for power, lanes, gates in [(1, 2, FULL_ONE), (2, 4, FULL_TWO), (3, 8, FULL_THREE)]:
            with self.subTest(power=power):
                board = Board.full(power)
                self.assertEqual((board.lane_count, board.gate_list), (lanes, gates))

    def test_full_boards_are_boards(self):
        for power in [1, 2, 3]:
            self.assertIs(type(Board.full(power)), Board)

    def test_other_powers(self):
        for power in [0, 4, -1, -2, 5, 24, HUGE, -HUGE] + NOT_INTEGERS:
            with self.subTest(power=power):
                self.assertEqual(raised(Board.full, power), ("InvalidPower", {}))


class Depth(unittest.TestCase):
    def test_plain_boards(self):
        told = [
            (bare, 0), (Board(8, []), 0), (Board(2, [(0, 1)]), 1), (Board(4, [(0, 1), (2, 3)]), 1),
            (Board(4, [(0, 1), (2, 3), (3, 0)]), 2), (three, 3), (Board(3, [(1, 2), (0, 1)]), 2),
            (Board(2, [(1, 0)] * 24), 24), (Board(4, [(2, 3), (2, 3), (0, 1)]), 2),
            (Board.full(1), 1), (full, 3), (Board.full(3), 6),
        ]
        for board, depth in told:
            with self.subTest(gates=board.gate_list):
                self.assertEqual(board.depth, depth)

    def test_it_is_the_longest_way_of_a_token_from_some_setting(self):
        for _, board, _ in random_cases(3, 60, most_gates=6):
            with self.subTest(lanes=board.lane_count, gates=board.gate_list):
                ways = [
                    gates_passed(board, lane, setting)
                    for lane in range(board.lane_count) for setting in all_settings(board)
                ]
                self.assertEqual(board.depth, max(ways))


def gates_passed(board, lane, setting):
    flow = SlowFlow(board.lane_count, board.gate_list, setting)
    flow.enter(lane)
    flow.finish_first()
    return len([old for old, new in zip(setting, flow.setting) if old != new])


class FollowedBy(unittest.TestCase):
    def test_gates_stand_one_behind_the_other(self):
        first, second = Board(3, [(0, 1), (1, 2)]), Board(3, [(2, 0)])
        self.assertEqual(first.followed_by(second), Board(3, [(0, 1), (1, 2), (2, 0)]))
        self.assertEqual(second.followed_by(first), Board(3, [(2, 0), (0, 1), (1, 2)]))
        self.assertIs(type(first.followed_by(second)), Board)

    def test_both_boards_stay_as_they_are(self):
        first, second = Board(3, [(0, 1)]), Board(3, [(2, 0)])
        first.followed_by(second)
        self.assertEqual((first.gate_list, second.gate_list), ([(0, 1)], [(2, 0)]))

    def test_boards_without_gates_and_the_board_itself(self):
        self.assertEqual(bare.followed_by(bare), bare)
        self.assertEqual(Board(4, []).followed_by(full), full)
        self.assertEqual(full.followed_by(Board(4, [])), full)
        self.assertEqual(full.followed_by(full).gate_list, FULL_TWO * 2)

    def test_24_gates_are_not_too_many(self):
        half = full.followed_by(full)
        self.assertEqual(half.followed_by(half).gate_list, FULL_TWO * 4)
        self.assertEqual(len(widest.followed_by(Board(8, []))), 24)

    def test_25_gates_are_too_many(self):
        whole = Board(4, FULL_TWO * 4)
        for first, second in [(whole, Board(4, [(0, 1)])), (Board(4, [(0, 1)]), whole), (whole, whole)]:
            self.assertEqual(raised(first.followed_by, second), ("TooLarge", {"limit": 24}))

    def test_other_values(self):
        for wrong in NOT_BOARDS:
            with self.subTest(wrong=wrong):
                self.assertEqual(raised(full.followed_by, wrong), ("InvalidBoard", {}))

    def test_different_numbers_of_lanes(self):
        self.assertEqual(raised(full.followed_by, three), ("Different", {}))
        self.assertEqual(raised(bare.followed_by, Board(8, [])), ("Different", {}))

    def test_different_numbers_of_lanes_come_before_too_many_gates(self):
        self.assertEqual(raised(widest.followed_by, Board(2, [(0, 1)] * 24)), ("Different", {}))


class Equality(unittest.TestCase):
    def test_equal_boards(self):
        self.assertTrue(Board(4, FULL_TWO) == Board.full(2))
        self.assertFalse(Board(4, FULL_TWO) != Board.full(2))
        self.assertTrue(Board(2, []) == bare)

    def test_other_lanes_or_gates(self):
        board = Board(3, [(0, 1), (1, 2)])
        others = [
            Board(4, [(0, 1), (1, 2)]), Board(3, [(1, 0), (1, 2)]), Board(3, [(1, 2), (0, 1)]),
            Board(3, [(0, 1)]), Board(3, [(0, 1), (1, 2), (1, 2)]), Board(3, []),
        ]
        for other in others:
            with self.subTest(lanes=other.lane_count, gates=other.gate_list):
                self.assertFalse(board == other)
                self.assertTrue(board != other)

    def test_no_other_value_is_equal(self):
        for wrong in NOT_BOARDS + [[2, []], ((0, 1),)]:
            with self.subTest(wrong=wrong):
                self.assertIs(bare == wrong, False)
                self.assertIs(bare != wrong, True)
                self.assertIs(bare.__eq__(wrong), False)


class Settings(unittest.TestCase):
    def test_settings(self):
        for board in [bare, three, full]:
            for setting in all_settings(board):
                with self.subTest(setting=setting):
                    self.assertIs(is_setting(board, setting), True)
        self.assertIs(is_setting(widest, [0, 1] * 12), True)

    def test_lists_of_another_length(self):
        for board, many in [(bare, 1), (three, 0), (three, 2), (three, 4), (widest, 23), (widest, 25), (full, 400)]:
            with self.subTest(many=many):
                self.assertIs(is_setting(board, [0] * many), False)

    def test_items_that_are_no_pointers(self):
        for wrong in [2, -1, 3, HUGE] + NOT_INTEGERS:
            for place in range(3):
                with self.subTest(wrong=wrong, place=place):
                    setting = [0, 1, 0]
                    setting[place] = wrong
                    self.assertIs(is_setting(three, setting), False)

    def test_values_that_are_no_lists(self):
        for wrong in NOT_LISTS:
            with self.subTest(wrong=wrong):
                self.assertIs(is_setting(bare, wrong), False)
                self.assertIs(is_setting(three, wrong), False)
                self.assertIs(is_setting(Board(2, [(0, 1)] * 2), wrong), False)

    def test_the_board_is_checked_first(self):
        for wrong in NOT_BOARDS:
            for value in [[], None, "0"]:
                with self.subTest(wrong=wrong, value=value):
                    self.assertEqual(raised(is_setting, wrong, value), ("InvalidBoard", {}))


if __name__ == "__main__":
    unittest.main()
