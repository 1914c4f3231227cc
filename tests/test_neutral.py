"""Points 12 to 14: amounts that change nothing, free gates, periods and bases."""

import random
import unittest

from samples import FULL_THREE, HUGE, all_settings, bare, full, random_board, random_cases, three, widest
from slow_model import send_mixed
from slow_search import (
    determinant, halves_are_whole, multiples_of, passing_numbers, send_one, setting_after, settings_from, small_amounts,
)
from tokenlanes.boards import Board
from tokenlanes.neutral import basis_of, count_reachable, free_gates, have_same_effect, is_neutral, period_of
from tokenlanes.passing import amounts_after

# Each of these gates is free, so 2 ** 24 settings can be reached from each one.
CHAIN = Board(3, [(0, 1), (1, 2)] * 12)
GREAT_BOARDS = [CHAIN, widest, Board.full(3), Board(2, [(0, 1), (1, 0)] * 12), Board(8, FULL_THREE[::-1])]


def small_boards(seed, many, most_gates):
    return [board for _, board, _ in random_cases(seed, many, most_gates)]


def great_boards(seed, many):
    """Return boards with 24 gates."""
    chance = random.Random(seed)
    boards = []
    for _ in range(many):
        lanes = chance.randint(2, 8)
        boards.append(Board(lanes, [tuple(chance.sample(range(lanes), 2)) for _ in range(24)]))
    return boards + GREAT_BOARDS


class IsNeutral(unittest.TestCase):
    def test_tokens_and_returns_one_after_the_other(self):
        for board in small_boards(31, 20, 4):
            for amounts in small_amounts(board, [-1, 0, 2], 3):
                stays = [setting_after(board, start, amounts) == start for start in all_settings(board)]
                with self.subTest(gates=board.gate_list, amounts=amounts):
                    self.assertEqual([is_neutral(board, amounts)] * len(stays), stays)

    def test_tokens_and_returns_in_any_order(self):
        for chance, board, start in random_cases(32, 150, most_gates=24):
            amounts = [chance.choice([-4, -2, 0, 2, 4, 8, 3]) for _ in range(board.lane_count)]
            flow = send_mixed(board, amounts, start, chance, extra=1)
            with self.subTest(gates=board.gate_list, amounts=amounts):
                self.assertIs(is_neutral(board, amounts), flow.setting == start)

    def test_an_even_number_passes_each_gate(self):
        for board in small_boards(33, 40, 12):
            for amounts in small_amounts(board, [-4, -1, 0, 2, 8], 3):
                with self.subTest(gates=board.gate_list, amounts=amounts):
                    self.assertIs(is_neutral(board, amounts), halves_are_whole(board, amounts))

    def test_great_amounts(self):
        for board in great_boards(34, 40):
            lanes = board.lane_count
            for chance in [random.Random(seed) for seed in range(5)]:
                amounts = [chance.randint(-HUGE >> 24, HUGE >> 24) << 24 for _ in range(lanes)]
                self.assertIs(is_neutral(board, amounts), True)
                other = [amount + chance.choice([-2, -1, 0, 1, 2]) for amount in amounts]
                self.assertIs(is_neutral(board, other), halves_are_whole(board, other))

    def test_the_greatest_amounts(self):
        for board in great_boards(35, 40):
            lanes = board.lane_count
            for amounts in [[HUGE] * lanes, [-HUGE] * lanes, [HUGE, -HUGE] + [0] * (lanes - 2)]:
                self.assertIs(is_neutral(board, amounts), True)
            for amounts in [[HUGE] * (lanes - 1) + [1 - HUGE], [1 - HUGE] + [HUGE] * (lanes - 1)]:
                self.assertIs(is_neutral(board, amounts), halves_are_whole(board, amounts))
        self.assertIs(is_neutral(CHAIN, [HUGE - 1, HUGE, HUGE]), False)
        self.assertIs(is_neutral(full, [HUGE, 1 - HUGE, 1, 0]), False)
        self.assertIs(is_neutral(full, [HUGE, -HUGE, -HUGE, HUGE]), True)

    def test_lanes_without_gates(self):
        for amounts in [[0, 0], [1, 0], [-1, 3], [HUGE, 1 - HUGE]]:
            self.assertIs(is_neutral(bare, amounts), True)
        self.assertIs(is_neutral(Board(8, []), [1 - HUGE, 1, 2, 3, 4, 5, 6, HUGE - 1]), True)
        self.assertIs(is_neutral(Board(4, [(1, 3)]), [7, 1, -9, -3]), True)
        self.assertIs(is_neutral(Board(4, [(1, 3)]), [8, 1, 8, 0]), False)

    def test_the_place_of_the_odd_number(self):
        for gates in [1, 7, 23, 24]:
            board = Board(4, [(0, 1)] * (gates - 1) + [(2, 3)])
            self.assertIs(is_neutral(board, [2, 0, 1, 1]), True)
            self.assertIs(is_neutral(board, [2, 0, 2, 1]), False)
            self.assertIs(is_neutral(board, [2, 0, -1, 0]), False)
        self.assertIs(is_neutral(Board(3, [(0, 1), (1, 2)]), [2, 0, 1]), True)
        self.assertIs(is_neutral(Board(3, [(0, 1), (1, 2)]), [-2, 0, 0]), False)

    def test_sums_and_differences(self):
        for chance, board, _ in random_cases(36, 60):
            told = [amounts for amounts in small_amounts(board, [-2, -1, 0, 1, 2], 4) if is_neutral(board, amounts)]
            for _ in range(10):
                one, other = chance.choice(told), chance.choice(told)
                self.assertIs(is_neutral(board, [first + second for first, second in zip(one, other)]), True)
                self.assertIs(is_neutral(board, [first - second for first, second in zip(one, other)]), True)


class SameEffect(unittest.TestCase):
    def test_from_each_setting(self):
        for chance, board, _ in random_cases(37, 120, most_gates=4):
            one, other = [[chance.randint(-3, 3) for _ in range(board.lane_count)] for _ in range(2)]
            same = [
                setting_after(board, start, one) == setting_after(board, start, other) for start in all_settings(board)
            ]
            with self.subTest(gates=board.gate_list, one=one, other=other):
                self.assertEqual([have_same_effect(board, one, other)] * len(same), same)

    def test_if_the_difference_is_neutral(self):
        for chance, board, start in random_cases(38, 200):
            one, other = [[chance.randint(-4, 4) for _ in range(board.lane_count)] for _ in range(2)]
            if chance.random() < 0.5:
                other = [amount + chance.choice([-8, 0, 16]) for amount in one]
            difference = [first - second for first, second in zip(one, other)]
            same = setting_after(board, start, one) == setting_after(board, start, other)
            with self.subTest(gates=board.gate_list, one=one, other=other):
                self.assertIs(have_same_effect(board, one, other), same)
                self.assertIs(have_same_effect(board, other, one), same)
                self.assertIs(halves_are_whole(board, difference), same)

    def test_equal_amounts(self):
        for chance, board, _ in random_cases(39, 30):
            amounts = [chance.randint(-HUGE, HUGE) for _ in range(board.lane_count)]
            self.assertIs(have_same_effect(board, amounts, list(amounts)), True)
            self.assertIs(have_same_effect(board, amounts, amounts), True)

    def test_the_greatest_amounts(self):
        for board in great_boards(40, 40):
            lanes = board.lane_count
            high, low, below = [HUGE] * lanes, [-HUGE] * lanes, [HUGE - 1] + [HUGE] * (lanes - 1)
            self.assertIs(have_same_effect(board, high, low), True)
            self.assertIs(have_same_effect(board, low, high), True)
            one = [1] + [0] * (lanes - 1)
            self.assertIs(have_same_effect(board, below, low), halves_are_whole(board, one))
            self.assertIs(have_same_effect(board, low, below), halves_are_whole(board, one))
        self.assertIs(have_same_effect(CHAIN, [HUGE - 1, HUGE, HUGE], [-HUGE] * 3), False)
        self.assertIs(have_same_effect(full, [HUGE, 0, 0, 0], [0, -HUGE, 4, 0]), True)
        self.assertIs(have_same_effect(full, [HUGE, 0, 0, 0], [1 - HUGE, 0, 0, 0]), False)

    def test_great_amounts_lead_to_the_same_setting(self):
        for chance, board, start in random_cases(41, 100):
            one, other = [[chance.randint(-HUGE, HUGE) for _ in range(board.lane_count)] for _ in range(2)]
            same = amounts_after(board, one, start=start)[1] == amounts_after(board, other, start=start)[1]
            self.assertIs(have_same_effect(board, one, other), same)

    def test_no_gates(self):
        self.assertIs(have_same_effect(bare, [HUGE, 0], [-HUGE, 7]), True)


class FreeGates(unittest.TestCase):
    def test_amounts_that_make_a_gate_free(self):
        for board in small_boards(42, 60, 4):
            found = set()
            # Amounts that differ by multiples of 2 ** 4 are even or odd at the same gates.
            for amounts in small_amounts(board, range(16) if board.lane_count < 4 else range(4), 4):
                odd = [gate for gate, many in enumerate(passing_numbers(board, amounts)) if many % 2 != 0]
                found.update(odd[:1])
            if board.lane_count < 4:
                with self.subTest(gates=board.gate_list):
                    self.assertEqual(free_gates(board), sorted(found))
            self.assertLessEqual(found, set(free_gates(board)))

    def test_as_many_as_the_settings_that_can_be_reached_say(self):
        for chance, board, start in random_cases(43, 60, most_gates=8):
            with self.subTest(gates=board.gate_list):
                self.assertEqual(2 ** len(free_gates(board)), len(settings_from(board, start)))

    def test_gates_behind_have_no_effect_on_those_before(self):
        for board in great_boards(44, 20):
            whole = free_gates(board)
            for many in range(25):
                part = Board(board.lane_count, board.gate_list[:many])
                self.assertEqual(free_gates(part), [gate for gate in whole if gate < many])

    def test_a_gate_is_free_if_it_doubles_what_can_be_reached(self):
        for board in small_boards(45, 20, 9):
            sizes = [
                len(settings_from(Board(board.lane_count, board.gate_list[:many]), [0] * many))
                for many in range(len(board) + 1)
            ]
            expected = [gate for gate in range(len(board)) if sizes[gate + 1] == 2 * sizes[gate]]
            self.assertEqual(free_gates(board), expected)

    def test_plain_boards(self):
        told = [
            (bare, []), (Board(8, []), []), (Board(2, [(0, 1)]), [0]), (Board(2, [(1, 0)] * 24), [0]),
            (Board(4, [(0, 1), (0, 1), (2, 3), (2, 3)]), [0, 2]), (three, [0, 1, 2]), (full, [0, 1, 2]),
            (widest, [0, 1, 2, 3]), (CHAIN, list(range(24))), (Board(4, full.gate_list * 4), [0, 1, 2]),
        ]
        for board, free in told:
            with self.subTest(gates=board.gate_list):
                self.assertEqual(free_gates(board), free)
                self.assertIs(type(free_gates(board)), list)


class CountReachable(unittest.TestCase):
    def test_from_each_setting(self):
        for board in small_boards(46, 20, 5):
            sizes = [len(settings_from(board, start)) for start in all_settings(board)]
            self.assertEqual(sizes, [count_reachable(board)] * len(sizes))

    def test_24_gates(self):
        chance = random.Random(47)
        for _ in range(20):
            lanes = chance.randint(2, 8)
            pairs = [tuple(chance.sample(range(lanes), 2)) for _ in range(4)]
            board = Board(lanes, pairs[:2] * 6 + [pairs[2]] * 6 + [pairs[3]] * 6)
            if count_reachable(board) <= 2 ** 9:
                self.assertEqual(count_reachable(board), len(settings_from(board, [0, 1] * 12)))
        self.assertEqual(count_reachable(Board.full(3)), len(settings_from(Board.full(3), [0] * 24)))
        self.assertEqual(len(settings_from(widest, [1, 0] * 12)), 16)

    def test_plain_boards(self):
        told = [(bare, 1), (Board(8, []), 1), (Board(2, [(0, 1)]), 2), (full, 8), (three, 8), (widest, 16)]
        for board, many in told + [(CHAIN, 2 ** 24), (Board(2, [(0, 1)] * 24), 2)]:
            self.assertEqual(count_reachable(board), many)
            self.assertIs(type(count_reachable(board)), int)

    def test_it_is_the_power_of_the_free_gates(self):
        for board in great_boards(48, 30):
            self.assertEqual(count_reachable(board), 2 ** len(free_gates(board)))


class Period(unittest.TestCase):
    def test_tokens_until_the_setting_comes_back(self):
        for board in small_boards(49, 60, 10):
            for start in [[0] * len(board), [1] * len(board)]:
                for lane in range(board.lane_count):
                    setting, many = tuple(start), 0
                    while many == 0 or setting != tuple(start):
                        setting, many = send_one(board, setting, lane)[1], many + 1
                    with self.subTest(gates=board.gate_list, lane=lane):
                        self.assertEqual(period_of(board, lane), many)

    def test_24_gates(self):
        for board in great_boards(50, 40):
            for lane in range(board.lane_count):
                amounts = [0] * board.lane_count
                amounts[lane] = period_of(board, lane)
                self.assertIn(amounts[lane], [2 ** power for power in range(25)])
                self.assertTrue(halves_are_whole(board, amounts))
                if amounts[lane] > 1:
                    amounts[lane] //= 2
                    self.assertFalse(halves_are_whole(board, amounts))

    def test_plain_boards(self):
        told = [
            (bare, [1, 1]), (Board(8, []), [1] * 8), (Board(3, [(2, 0)]), [2, 1, 2]), (full, [4] * 4),
            (three, [8, 8, 4]), (Board(2, [(0, 1)] * 24), [2, 2]), (Board.full(3), [8] * 8),
            (CHAIN, [2 ** 24, 2 ** 24, 2 ** 23]),
        ]
        for board, periods in told:
            with self.subTest(gates=board.gate_list):
                self.assertEqual([period_of(board, lane) for lane in range(board.lane_count)], periods)
        self.assertIs(type(period_of(bare, 1)), int)


class Basis(unittest.TestCase):
    def boards(self):
        drawn = small_boards(51, 40, 6) + small_boards(52, 20, 24) + great_boards(53, 20)
        return drawn + [bare, Board(8, []), full, three, Board(2, [(1, 0)])]

    def test_as_many_neutral_lists_as_lanes(self):
        for board in self.boards():
            basis = basis_of(board)
            self.assertIs(type(basis), list)
            self.assertEqual([type(row) for row in basis], [list] * board.lane_count)
            for row in basis:
                self.assertEqual([type(amount) for amount in row], [int] * board.lane_count)
                self.assertLessEqual(max(abs(amount) for amount in row), HUGE)
                self.assertTrue(halves_are_whole(board, row))
                self.assertIs(is_neutral(board, row), True)

    def test_no_list_is_a_sum_of_the_others(self):
        for board in self.boards():
            self.assertNotEqual(determinant(basis_of(board)), 0)

    def test_each_neutral_list_is_a_sum_of_integer_multiples(self):
        for board in small_boards(54, 30, 5) + [bare, full, three]:
            basis = basis_of(board)
            for amounts in small_amounts(board, range(-2, 3), 3):
                if halves_are_whole(board, amounts):
                    with self.subTest(gates=board.gate_list, amounts=amounts):
                        self.assertEqual([part.denominator for part in multiples_of(basis, amounts)], [1] * len(basis))

    def test_each_period_is_a_sum_of_integer_multiples(self):
        for board in self.boards():
            basis = basis_of(board)
            for lane in range(board.lane_count):
                amounts = [0] * board.lane_count
                amounts[lane] = period_of(board, lane)
                self.assertEqual([part.denominator for part in multiples_of(basis, amounts)], [1] * len(basis))

    def test_great_neutral_lists(self):
        chance = random.Random(55)
        for board in great_boards(56, 20):
            basis = basis_of(board)
            for _ in range(3):
                amounts = [chance.randint(-HUGE, HUGE) << 24 for _ in range(board.lane_count)]
                self.assertEqual([part.denominator for part in multiples_of(basis, amounts)], [1] * len(basis))

    def test_one_list_in_so_many_is_neutral_as_settings_can_be_reached(self):
        # Neutral lists that one basis does not reach would make this number too great.
        for _, board, start in random_cases(57, 30, most_gates=8):
            self.assertEqual(abs(determinant(basis_of(board))), len(settings_from(board, start)))
        for board in great_boards(58, 30):
            self.assertEqual(abs(determinant(basis_of(board))), count_reachable(board))

    def test_equal_boards_give_equal_results(self):
        chance = random.Random(59)
        for _ in range(20):
            board = random_board(chance)
            self.assertEqual(basis_of(board), basis_of(Board(board.lane_count, board.gate_list)))
        self.assertEqual(basis_of(full), basis_of(Board.full(2)))


if __name__ == "__main__":
    unittest.main()
