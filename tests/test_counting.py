"""Points 15 to 17: which boards count, and the shortest failures of the others."""

import itertools
import random
import unittest

from samples import FULL_TWO, all_settings, bare, full, random_cases, three
from slow_model import SlowFlow, send_in_turn, standing
from slow_search import failing_list
from tokenlanes.boards import Board
from tokenlanes.counting import failing_entries, is_counting
from tokenlanes.passing import numbers_of

CHAIN = Board(3, [(0, 1), (1, 2)] * 4)
EIGHT = [CHAIN, Board(2, [(0, 1)] * 8), Board(8, [(lane, (lane + 1) % 8) for lane in range(8)]),
         Board(4, [(0, 2), (1, 3)] + FULL_TWO), Board(4, FULL_TWO + [(0, 2), (1, 3)])]
# Boards and starts whose shortest failures have 4, 5 and 6 entries.
LONG = [
    (Board(4, [(2, 1), (1, 0), (0, 2), (2, 3), (0, 3), (1, 2), (0, 1), (2, 3)]), [1, 0, 0, 1, 0, 0, 0, 0]),
    (Board(4, [(2, 3), (1, 2), (0, 1), (2, 3), (0, 3), (1, 2), (2, 3), (2, 3)]), [0] * 8),
    (Board(4, [(2, 3), (1, 0), (3, 0), (2, 3), (3, 1), (1, 2), (0, 1), (2, 3)]), [0, 1, 1, 1, 1, 0, 0, 0]),
]


def boards_near_full(many):
    """Yield boards that differ from the full board in a few gates, and settings of them."""
    chance = random.Random(81)
    for _ in range(many):
        gates = [gate if chance.random() < 0.8 else tuple(chance.sample(range(4), 2)) for gate in FULL_TWO]
        front = [tuple(chance.sample(range(4), 2)) for _ in range(chance.randint(0, 2))]
        board = Board(4, front + gates)
        yield board, [chance.choice([0, 0, 0, 1]) for _ in range(len(board))]


def counting_cases():
    """Return boards and starts from which they count, found by the slow model."""
    boards = [full, Board(2, [(0, 1)]), Board(2, [(1, 0)]), Board(2, [(0, 1), (1, 0), (0, 1)]), EIGHT[1], EIGHT[3]]
    cases = [(board, start) for board in boards for start in all_settings(board) if failing_list(board, start) is None]
    return cases[::len(cases) // 40]


class Failing(unittest.TestCase):
    def check(self, board, start):
        expected = failing_list(board, start)
        with self.subTest(lanes=board.lane_count, gates=board.gate_list, start=start):
            self.assertEqual(failing_entries(board, start=start), expected)
            self.assertIs(is_counting(board, start=start), expected is None)

    def test_drawn_boards(self):
        for _, board, start in random_cases(82, 200, most_gates=8):
            self.check(board, start)

    def test_boards_with_two_lanes(self):
        for many in range(5):
            for gates in itertools.product([(0, 1), (1, 0)], repeat=many):
                board = Board(2, list(gates))
                for start in all_settings(board):
                    self.check(board, start)

    def test_the_full_board_from_each_setting(self):
        for start in all_settings(full):
            self.check(full, start)

    def test_boards_that_are_nearly_full(self):
        for board, start in boards_near_full(150):
            self.check(board, start)

    def test_eight_gates(self):
        for board in EIGHT:
            for start in all_settings(board)[::15]:
                self.check(board, start)

    def test_against_all_lists_of_entries_in_their_order(self):
        found = []
        cases = [(board, start, 3) for _, board, start in random_cases(83, 40, most_gates=8)]
        cases += [(board, start, 3) for board, start in boards_near_full(60)]
        for board, start, longest in cases + [(board, start, 6) for board, start in LONG]:
            expected = first_failing(board, start, longest)
            told = failing_entries(board, start=start)
            with self.subTest(gates=board.gate_list, start=start):
                if expected is None:
                    self.assertTrue(told is None or len(told) > longest)
                else:
                    self.assertEqual(told, expected)
            found.append(len(expected or []))
        self.assertEqual(set(found), {0, 1, 2, 3, 4, 5, 6})

    def test_only_the_last_token_leaves_on_a_wrong_lane(self):
        for board, start in boards_near_full(100):
            entries = failing_entries(board, start=start)
            if entries is not None:
                self.assertEqual({type(lane) for lane in entries}, {int})
                exits = send_in_turn(board, entries, start).exits
                wrong = [index for index, lane in enumerate(exits) if lane != index % 4]
                self.assertEqual(wrong, [len(entries) - 1])

    def test_plain_boards(self):
        told = [
            (bare, [1]), (Board(8, []), [1]), (Board(3, [(0, 1)]), [2]), (Board(2, [(0, 1)]), None),
            (Board(2, [(1, 0)]), [0]), (three, [2, 2]), (full, None), (EIGHT[1], None),
        ]
        for board, entries in told:
            with self.subTest(gates=board.gate_list):
                self.assertEqual(failing_entries(board), entries)
                self.assertIs(is_counting(board), entries is None)

    def test_without_a_start_all_pointers_are_0(self):
        for board, _ in boards_near_full(40):
            zeros = failing_entries(board, start=[0] * len(board))
            self.assertEqual(failing_entries(board), zeros)
            self.assertEqual(failing_entries(board, start=None), zeros)
            self.assertIs(is_counting(board), zeros is None)
            self.assertIs(is_counting(board, start=None), zeros is None)


def first_failing(board, start, longest):
    """Return the first list of entries whose last token leaves on a wrong lane, of all up to a length."""
    lanes = range(board.lane_count)
    for many in range(1, longest + 1):
        for entries in itertools.product(lanes, repeat=many):
            if send_in_turn(board, entries, start).exits[-1] != (many - 1) % board.lane_count:
                return list(entries)
    return None


class Counting(unittest.TestCase):
    def test_full_boards_count(self):
        for power in [1, 2]:
            self.assertIs(is_counting(Board.full(power)), True)
            self.assertIsNone(failing_entries(Board.full(power)))

    def test_each_token_gets_the_next_number(self):
        chance = random.Random(84)
        for board, start in counting_cases():
            self.assertIs(is_counting(board, start=start), True)
            entries = [chance.randrange(board.lane_count) for _ in range(400)]
            self.assertEqual(numbers_of(board, entries, start=start), list(range(400)))

    def test_some_settings_of_the_full_board(self):
        told = [start for start in all_settings(full) if is_counting(full, start=start)]
        self.assertEqual(told, [start for start in all_settings(full) if failing_list(full, start) is None])
        self.assertIn([0] * 6, told)
        self.assertNotIn([0, 0, 0, 0, 0, 1], told)

    def test_after_as_many_tokens_as_lanes_it_counts_again(self):
        chance = random.Random(85)
        for board, start in counting_cases():
            entries = [chance.randrange(board.lane_count) for _ in range(4 * board.lane_count)]
            after = send_in_turn(board, entries, start).setting
            self.assertIs(is_counting(board, start=after), True)
            after = send_in_turn(board, entries[1:], start).setting
            self.assertIs(is_counting(board, start=after), False)

    def test_only_boards_with_2_or_4_or_8_lanes(self):
        chance = random.Random(86)
        for _ in range(600):
            lanes = chance.choice([3, 5, 6, 7])
            gates = [tuple(chance.sample(range(lanes), 2)) for _ in range(chance.randint(0, 8))]
            start = [chance.randint(0, 1) for _ in gates]
            self.assertIs(is_counting(Board(lanes, gates), start=start), False)
        for gates in itertools.product([(0, 1), (1, 2), (0, 2)], repeat=5):
            self.assertIs(is_counting(Board(3, list(gates))), False)


class Overtaking(unittest.TestCase):
    """Point 16: the numbers are those below the number of tokens, whoever overtakes whom."""

    def test_boards_that_count(self):
        chance = random.Random(87)
        for board, start in counting_cases():
            for _ in range(6):
                flow = SlowFlow(board.lane_count, board.gate_list, start)
                tokens = chance.randint(0, 15)
                crowd = [False] * tokens + [True] * chance.randint(0, tokens)
                more = tokens - crowd.count(True)
                chance.shuffle(crowd)
                for is_return in crowd:
                    flow.enter(chance.randrange(board.lane_count), is_return)
                    if chance.random() < 0.5:
                        flow.step(chance.randrange(len(flow.inside)))
                flow.finish_mixed(chance)
                with self.subTest(gates=board.gate_list, start=start):
                    self.assertEqual(standing(flow), [(number, 1) for number in range(more)])


if __name__ == "__main__":
    unittest.main()
