"""Point 3: arguments stay as they are, results are new, and later changes have no effect."""

import copy
import unittest

from samples import FULL_TWO, raised
from tokenlanes.boards import Board, is_setting
from tokenlanes.passing import amounts_after, exit_of, numbers_of, run_tokens, walk_exits


def walk_a_while(board, lane, *, start=None):
    walk = walk_exits(board, lane, start=start)
    return [next(walk) for _ in range(20)]


def calls():
    """Return new arguments for each function: good ones, and some that raise an error."""
    return [
        (run_tokens, [0, 0, 0, 3], [0, 1, 0, 1, 0, 1]), (run_tokens, [], [1] * 6), (run_tokens, [0, 4], [1] * 6),
        (run_tokens, [0, 1], [1] * 5), (numbers_of, [0, 0, 0, 3], [0, 1, 0, 1, 0, 1]), (numbers_of, [4], [1] * 6),
        (numbers_of, [0, 1], [2] * 6), (amounts_after, [5, -3, 10 ** 30, 0], [0, 1, 0, 1, 0, 1]),
        (amounts_after, [5, -3, 10 ** 30, True], [0] * 6), (amounts_after, [5, -3, 1, 0], [0] * 7),
        (walk_a_while, 2, [0, 1, 0, 1, 0, 1]), (walk_a_while, 2, [0, 1, 0]),
    ]


class ArgumentsStay(unittest.TestCase):
    def test_lists_given_to_functions(self):
        for call, value, start in calls():
            with self.subTest(call=call.__name__, value=value, start=start):
                board = Board(4, list(FULL_TWO))
                before = copy.deepcopy((value, start))
                raised(call, board, value, start=start)
                self.assertEqual((value, start), before)
                self.assertEqual((board.lane_count, board.gate_list), (4, FULL_TWO))

    def test_start_of_exit_of(self):
        start = [0, 1, 0, 1, 0, 1]
        exit_of(Board.full(2), 1, 5, start=start)
        self.assertEqual(start, [0, 1, 0, 1, 0, 1])

    def test_lists_given_to_boards(self):
        good, wrong, setting = [(0, 1), (1, 0)], [(0, 1), None], [0, 1]
        board = Board(2, good)
        raised(Board, 2, wrong)
        is_setting(board, setting)
        board.followed_by(board)
        self.assertEqual((good, wrong, setting), ([(0, 1), (1, 0)], [(0, 1), None], [0, 1]))


class ResultsAreNew(unittest.TestCase):
    def test_results_that_are_equal_to_an_argument(self):
        for gates in [[], [(0, 1)]]:
            entries, amounts, start = [], [0, 0], [0] * len(gates)
            board = Board(2, gates)
            exits, setting = run_tokens(board, entries, start=start)
            leaving, after = amounts_after(board, amounts, start=start)
            self.assertIsNot(exits, entries)
            self.assertIsNot(leaving, amounts)
            self.assertIsNot(setting, start)
            self.assertIsNot(after, start)
            self.assertIsNot(numbers_of(board, entries), entries)
            for result in (exits, setting, leaving, after):
                result.append(9)
            self.assertEqual((entries, amounts, start), ([], [0, 0], [0] * len(gates)))

    def test_changed_results_have_no_effect_on_later_ones(self):
        for call, value in [(run_tokens, [0, 1, 3]), (amounts_after, [1, 2, -3, 4])]:
            board = Board(4, FULL_TWO)
            first = call(board, value)
            kept = copy.deepcopy(first)
            for part in first:
                part[0] = 7
                part.append(8)
            self.assertEqual(call(board, value), kept)
        numbers = numbers_of(board, [0, 1, 3])
        numbers.clear()
        self.assertEqual(numbers_of(board, [0, 1, 3]), [0, 1, 2])

    def test_changed_gate_lists_have_no_effect(self):
        boards = [Board(4, FULL_TWO), Board.full(2), Board.read("4: 0-1 2-3 0-3 1-2 0-1 2-3")]
        boards.append(Board(4, FULL_TWO[:3]).followed_by(Board(4, FULL_TWO[3:])))
        boards.append(Board(4, []).followed_by(Board(4, FULL_TWO)))
        boards.append(Board(4, FULL_TWO).followed_by(Board(4, [])))
        for board in boards:
            self.assertIsNot(board.gate_list, board.gate_list)
            gates = board.gate_list
            gates[0] = (1, 3)
            gates.append((0, 2))
            board.gate_list.clear()
            self.assertEqual((board.gate_list, len(board), board.depth), (FULL_TWO, 6, 3))
            self.assertEqual(run_tokens(board, [0, 0, 0, 3])[0], [0, 1, 2, 3])
        self.assertEqual(Board.full(2).gate_list, FULL_TWO)

    def test_boards_that_were_joined_stay_apart(self):
        first, second = Board(2, [(0, 1)]), Board(2, [(1, 0)])
        both = first.followed_by(second)
        for board in [first, second, both]:
            board.gate_list.append((1, 0))
        self.assertEqual([len(first), len(second), len(both)], [1, 1, 2])


class LaterChanges(unittest.TestCase):
    def test_gates_changed_after_the_board_was_made(self):
        gates = list(FULL_TWO)
        board = Board(4, gates)
        gates[0] = (1, 3)
        gates.append((0, 2))
        self.assertEqual((board.gate_list, len(board), board == Board.full(2)), (FULL_TWO, 6, True))
        gates.clear()
        self.assertEqual(numbers_of(board, [0, 0, 0, 3]), [0, 1, 2, 3])

    def test_start_changed_while_a_walk_goes_on(self):
        start = [0, 1, 0, 1, 0, 1]
        expected = run_tokens(Board.full(2), [0] * 10, start=start)[0]
        walk = walk_exits(Board.full(2), 0, start=start)
        walked = [next(walk)]
        start[0] = 1
        walked += [next(walk) for _ in range(4)]
        start.clear()
        walked += [next(walk) for _ in range(5)]
        self.assertEqual(walked, expected)

    def test_boards_stay_as_they_are_after_errors(self):
        board = Board(2, [(0, 1)])
        raised(board.followed_by, Board(2, [(0, 1)] * 24))
        raised(board.followed_by, None)
        raised(run_tokens, board, [0, 2])
        self.assertEqual((board.gate_list, run_tokens(board, [0])), ([(0, 1)], ([0], [1])))


if __name__ == "__main__":
    unittest.main()
