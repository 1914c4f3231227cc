"""Wrong arguments of the functions of neutral.py, alone and several at the same time."""

import itertools
import unittest

from samples import HUGE, NOT_BOARDS, NOT_INTEGERS, NOT_LISTS, bare, full, raised
from tokenlanes.boards import Board
from tokenlanes.neutral import basis_of, count_reachable, free_gates, have_same_effect, is_neutral, period_of

WHOLE = Board(4, full.gate_list * 4)
WRONG_AMOUNTS = [[], [0], [0] * 3, [0] * 5, [0] * 400, (0, 0, 0, 0), *NOT_LISTS]
WRONG_AMOUNTS += [
    [0] * place + [item] + [0] * (3 - place) for place in range(4)
    for item in [HUGE + 1, -HUGE - 1, HUGE * 10, -HUGE * 10, *NOT_INTEGERS]
]


class WrongArguments(unittest.TestCase):
    def test_boards(self):
        calls = [
            (is_neutral, [[0] * 4]), (have_same_effect, [[0] * 4, [0] * 4]), (free_gates, []), (count_reachable, []),
            (period_of, [0]), (basis_of, []),
        ]
        for wrong in NOT_BOARDS:
            for call, values in calls:
                with self.subTest(call=call.__name__, wrong=wrong):
                    self.assertEqual(raised(call, wrong, *values), ("InvalidBoard", {}))

    def test_amounts(self):
        for wrong in WRONG_AMOUNTS:
            for board in [full, WHOLE]:
                with self.subTest(wrong=wrong):
                    self.assertEqual(raised(is_neutral, board, wrong), ("InvalidAmounts", {}))
                    self.assertEqual(raised(have_same_effect, board, wrong, [0] * 4), ("InvalidAmounts", {}))
                    self.assertEqual(raised(have_same_effect, board, [0] * 4, wrong), ("InvalidAmounts", {}))
                    self.assertEqual(raised(have_same_effect, board, wrong, wrong), ("InvalidAmounts", {}))

    def test_amounts_of_a_board_without_gates(self):
        for wrong in [[], [0], [0] * 3, (0, 0), [HUGE + 1, 0], [0, -HUGE - 1], [True, 0], [0, None]]:
            self.assertEqual(raised(is_neutral, bare, wrong), ("InvalidAmounts", {}))
            self.assertEqual(raised(have_same_effect, bare, [0, 0], wrong), ("InvalidAmounts", {}))

    def test_lanes(self):
        for wrong in [4, -1, -4, 8, HUGE, -HUGE] + NOT_INTEGERS:
            for board in [full, WHOLE]:
                with self.subTest(wrong=wrong):
                    self.assertEqual(raised(period_of, board, wrong), ("InvalidLane", {}))
        for lanes in range(2, 9):
            self.assertEqual(raised(period_of, Board(lanes, []), lanes), ("InvalidLane", {}))
            self.assertIsNone(raised(period_of, Board(lanes, []), lanes - 1))

    def test_24_gates_are_not_too_many(self):
        for call, values in [
            (is_neutral, [[0] * 4]), (have_same_effect, [[0] * 4, [0] * 4]), (free_gates, []), (count_reachable, []),
            (period_of, [3]), (basis_of, []),
        ]:
            self.assertIsNone(raised(call, WHOLE, *values))


class ErrorOrder(unittest.TestCase):
    """If several arguments are wrong, the error that the interface lists first is raised."""

    def test_board_then_the_others_in_their_order(self):
        told = [
            (is_neutral, [(None, full, "InvalidBoard"), ([0], [0] * 4, "InvalidAmounts")]),
            (have_same_effect, [(None, full, "InvalidBoard"), ([0], [0] * 4, "InvalidAmounts"),
                                ((), [0] * 4, "InvalidAmounts")]),
            (period_of, [(None, full, "InvalidBoard"), (True, 0, "InvalidLane")]),
        ]
        for call, places in told:
            for chosen in itertools.product([False, True], repeat=len(places)):
                values = [wrong if is_wrong else right for (wrong, right, _), is_wrong in zip(places, chosen)]
                names = [name for (_, _, name), is_wrong in zip(places, chosen) if is_wrong]
                with self.subTest(call=call.__name__, chosen=chosen):
                    self.assertEqual(raised(call, *values), (names[0], {}) if names else None)


if __name__ == "__main__":
    unittest.main()
