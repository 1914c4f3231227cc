"""The settings that can be reached, the fewest tokens that lead to them, and their classes."""

import unittest

from samples import all_settings, bare, full, random_cases, three
from slow_model import send_in_turn
from slow_search import fewest_from, send_one, setting_after, settings_from
from tokenlanes.boards import Board
from tokenlanes.neutral import count_reachable
from tokenlanes.settings import classes_of, fewest_tokens, reachable

# With 8 gates: all settings can be reached, by the tokens on lane 0 alone.
CHAIN = Board(3, [(0, 1), (1, 2)] * 4)
EIGHT = [CHAIN, Board(2, [(0, 1)] * 8), Board(8, [(lane, (lane + 1) % 8) for lane in range(8)]),
         Board(8, [(0, 1), (2, 3), (4, 5), (6, 7)] * 2), Board(4, full.gate_list + [(0, 2), (1, 3)])]


class Reachable(unittest.TestCase):
    def test_against_a_plain_search(self):
        for _, board, start in random_cases(61, 120, most_gates=8):
            with self.subTest(gates=board.gate_list, start=start):
                self.assertEqual(reachable(board, start=start), settings_from(board, start))

    def test_from_each_setting(self):
        for board in [three, Board(4, [(0, 1), (0, 1), (1, 2), (3, 2)])]:
            for start in all_settings(board):
                self.assertEqual(reachable(board, start=start), settings_from(board, start))

    def test_returns_reach_no_more_settings(self):
        for _, board, start in random_cases(62, 30, most_gates=6):
            told = reachable(board, start=start)
            for setting in told:
                for lane in range(board.lane_count):
                    amounts = [0] * board.lane_count
                    amounts[lane] = -1
                    self.assertIn(setting_after(board, setting, amounts), told)

    def test_eight_gates(self):
        for board in EIGHT:
            for start in [[0] * 8, [1, 0, 0, 1, 1, 0, 1, 0]]:
                self.assertEqual(reachable(board, start=start), settings_from(board, start))
        self.assertEqual(reachable(CHAIN), all_settings(CHAIN))
        self.assertEqual(reachable(EIGHT[1]), [[0] * 8, [1] * 8])

    def test_no_gates(self):
        for board in [bare, Board(8, [])]:
            self.assertEqual(reachable(board), [[]])
            self.assertEqual(reachable(board, start=[]), [[]])

    def test_without_a_start_all_pointers_are_0(self):
        for _, board, _ in random_cases(63, 30, most_gates=8):
            zeros = reachable(board, start=[0] * len(board))
            self.assertEqual(reachable(board), zeros)
            self.assertEqual(reachable(board, start=None), zeros)

    def test_as_many_from_each_setting(self):
        for chance, board, start in random_cases(64, 60, most_gates=8):
            self.assertEqual(len(reachable(board, start=start)), count_reachable(board))
            self.assertIn(start, reachable(board, start=start))


class FewestTokens(unittest.TestCase):
    def test_against_all_amounts_in_their_order(self):
        for _, board, start in random_cases(65, 60, most_gates=5):
            told = fewest_from(board, start)
            for goal in all_settings(board):
                with self.subTest(gates=board.gate_list, start=start, goal=goal):
                    self.assertEqual(fewest_tokens(board, goal, start=start), told.get(tuple(goal)))

    def test_from_and_to_each_setting(self):
        for board in [three, Board(4, [(0, 1), (0, 1), (1, 2), (3, 2)]), Board(2, [(0, 1), (1, 0), (0, 1)])]:
            for start in all_settings(board):
                told = fewest_from(board, start)
                for goal in all_settings(board):
                    self.assertEqual(fewest_tokens(board, goal, start=start), told.get(tuple(goal)))

    def test_eight_gates(self):
        for board in EIGHT:
            for start in [[0] * 8, [1, 0, 0, 1, 1, 0, 1, 0]]:
                told = fewest_from(board, start)
                for goal in all_settings(board)[::3]:
                    with self.subTest(gates=board.gate_list, start=start, goal=goal):
                        self.assertEqual(fewest_tokens(board, goal, start=start), told.get(tuple(goal)))

    def test_they_lead_to_the_goal_in_any_order(self):
        for chance, board, start in random_cases(66, 60, most_gates=8):
            goal = chance.choice(settings_from(board, start))
            amounts = fewest_tokens(board, goal, start=start)
            self.assertEqual([type(amount) for amount in amounts], [int] * board.lane_count)
            entries = [lane for lane, amount in enumerate(amounts) for _ in range(amount)]
            chance.shuffle(entries)
            self.assertEqual(send_in_turn(board, entries, start).setting, goal)

    def test_the_least_list_of_those_with_the_same_sum(self):
        self.assertEqual(fewest_tokens(Board(3, [(0, 1)]), [1]), [0, 1, 0])
        self.assertEqual(fewest_tokens(Board(8, [(7, 0)]), [1]), [0, 0, 0, 0, 0, 0, 0, 1])
        self.assertEqual(fewest_tokens(Board(4, [(0, 1), (2, 3)]), [1, 1]), [0, 1, 0, 1])
        self.assertEqual(fewest_tokens(full, [1, 1, 0, 0, 0, 0]), [0, 1, 0, 3])

    def test_the_start_as_the_goal(self):
        for _, board, start in random_cases(67, 60, most_gates=8):
            self.assertEqual(fewest_tokens(board, start, start=start), [0] * board.lane_count)
            self.assertEqual(fewest_tokens(board, [0] * len(board)), [0] * board.lane_count)

    def test_no_gates(self):
        self.assertEqual(fewest_tokens(bare, []), [0, 0])
        self.assertEqual(fewest_tokens(Board(8, []), [], start=[]), [0] * 8)

    def test_goals_that_cannot_be_reached(self):
        twice = Board(2, [(0, 1), (0, 1)])
        for start, goal in [([0, 0], [0, 1]), ([0, 0], [1, 0]), ([0, 1], [0, 0]), ([1, 0], [1, 1])]:
            self.assertIsNone(fewest_tokens(twice, goal, start=start))
        self.assertIsNone(fewest_tokens(full, [1, 0, 0, 0, 0, 0]))
        self.assertIsNone(fewest_tokens(EIGHT[1], [0] * 7 + [1]))

    def test_a_goal_is_reached_if_it_is_reachable(self):
        for _, board, start in random_cases(68, 40, most_gates=7):
            told = [goal for goal in all_settings(board) if fewest_tokens(board, goal, start=start) is not None]
            self.assertEqual(told, settings_from(board, start))

    def test_without_a_start_all_pointers_are_0(self):
        for chance, board, goal in random_cases(69, 40, most_gates=8):
            zeros = fewest_tokens(board, goal, start=[0] * len(board))
            self.assertEqual(fewest_tokens(board, goal), zeros)
            self.assertEqual(fewest_tokens(board, goal, start=None), zeros)


class Classes(unittest.TestCase):
    def test_against_a_plain_search(self):
        for _, board, _ in random_cases(70, 60, most_gates=6):
            with self.subTest(gates=board.gate_list):
                self.assertEqual(classes_of(board), plain_classes(board))

    def test_eight_gates(self):
        for board in EIGHT:
            self.assertEqual(classes_of(board), plain_classes(board))
        self.assertEqual(classes_of(CHAIN), [all_settings(CHAIN)])
        self.assertEqual(len(classes_of(EIGHT[1])), 128)

    def test_no_gates(self):
        self.assertEqual(classes_of(bare), [[[]]])
        self.assertEqual(classes_of(Board(8, [])), [[[]]])

    def test_sizes(self):
        for _, board, _ in random_cases(71, 60, most_gates=8):
            sizes = [len(settings) for settings in classes_of(board)]
            self.assertEqual(sizes, [count_reachable(board)] * (2 ** len(board) // count_reachable(board)))

    def test_each_class_is_what_its_settings_reach(self):
        for _, board, start in random_cases(72, 60, most_gates=8):
            self.assertEqual([told for told in classes_of(board) if start in told], [reachable(board, start=start)])

    def test_tokens_stay_in_a_class(self):
        for chance, board, _ in random_cases(73, 40, most_gates=8):
            for settings in classes_of(board):
                setting = chance.choice(settings)
                for lane in range(board.lane_count):
                    self.assertIn(list(send_one(board, setting, lane)[1]), settings)


def plain_classes(board):
    """Return the settings by which ones can be reached, in ascending order, with no memory of earlier ones."""
    classes = []
    for setting in all_settings(board):
        if not any(setting in told for told in classes):
            classes.append(settings_from(board, setting))
    return sorted(classes)


if __name__ == "__main__":
    unittest.main()
