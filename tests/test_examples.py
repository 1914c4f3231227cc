"""The examples of the document, as they stand in it."""

import unittest

from examples import outcome_of

BOARDS = [
    """
>>> from tokenlanes.boards import Board, is_setting
>>> full = Board(4, [(0, 1), (2, 3), (0, 3), (1, 2), (0, 1), (2, 3)])
>>> [full == Board.full(2), len(full), full.depth, Board.read('2:').gate_list, is_setting(full, [0, 0, 1, 1, 0, 0])]
[True, 6, 3, [], True]
""",
    """
>>> from tokenlanes.boards import Board
>>> Board(3, [(0, 1), (1, 1)])
raises InvalidGate(index=1)
""",
]
PASSING = [
    """
>>> from tokenlanes.boards import Board
>>> from tokenlanes.passing import amounts_after, numbers_of, run_tokens
>>> full, three = Board.full(2), Board(3, [(0, 1), (1, 2), (0, 1)])
>>> [run_tokens(full, [0, 0, 0, 3]), numbers_of(three, [2, 2, 2]), amounts_after(full, [1, 0, 0, -1])]
[([0, 1, 2, 3], [1, 1, 0, 0, 0, 0]), [0, 2, 1], ([0, 0, 0, 0], [1, 1, 0, 0, 0, 0])]
""",
    """
>>> from tokenlanes.boards import Board
>>> from tokenlanes.passing import amounts_after, exit_of
>>> full, three = Board.full(2), Board(3, [(0, 1), (1, 2), (0, 1)])
>>> [amounts_after(full, [10 ** 30, 0, 0, -2])[0][1:3], [exit_of(three, 0, number) for number in [0, 1, 2, 3, 10 ** 30 - 1]]]
[[250000000000000000000000000000, 249999999999999999999999999999], [0, 1, 0, 2, 2]]
""",
]
NEUTRAL = [
    """
>>> from tokenlanes.boards import Board
>>> from tokenlanes.neutral import count_reachable, free_gates, period_of
>>> full, three = Board.full(2), Board(3, [(0, 1), (1, 2), (0, 1)])
>>> [free_gates(full), count_reachable(full), period_of(full, 0), period_of(three, 0)]
[[0, 1, 2], 8, 4, 8]
""",
    """
>>> from tokenlanes.boards import Board
>>> from tokenlanes.neutral import have_same_effect, is_neutral
>>> full = Board.full(2)
>>> told = [is_neutral(full, amounts) for amounts in [[2, 0, 0, 0], [2, 0, 2, 0], [1, -1, 0, 0]]]
>>> [told, have_same_effect(full, [1, 0, 0, 0], [0, 1, 4, 0])]
[[False, True, True], True]
""",
]
SETTINGS = [
    """
>>> from tokenlanes.boards import Board
>>> from tokenlanes.settings import fewest_tokens, reachable
>>> full = Board.full(2)
>>> [len(reachable(full)), reachable(full)[:2], fewest_tokens(full, [1, 1, 0, 0, 0, 0]), fewest_tokens(full, [1, 0, 0, 0, 0, 0])]
[8, [[0, 0, 0, 0, 0, 0], [0, 0, 1, 1, 0, 0]], [0, 1, 0, 3], None]
""",
    """
>>> from tokenlanes.boards import Board
>>> from tokenlanes.settings import classes_of
>>> classes_of(Board(2, [(0, 1), (0, 1)]))
[[[0, 0], [1, 1]], [[0, 1], [1, 0]]]
""",
]
COUNTING = [
    """
>>> from tokenlanes.boards import Board
>>> from tokenlanes.counting import failing_entries, is_counting
>>> full, three = Board.full(2), Board(3, [(0, 1), (1, 2), (0, 1)])
>>> [is_counting(full), failing_entries(three), failing_entries(full, start=[0, 0, 0, 0, 0, 1])]
[True, [2, 2], [0, 0, 0]]
""",
]
ALIKE = [
    """
>>> from tokenlanes.alike import alike_settings, are_alike, parting_entries
>>> from tokenlanes.boards import Board
>>> once, twice = Board(2, [(0, 1)]), Board(2, [(0, 1), (0, 1)])
>>> [alike_settings(twice), are_alike(once, twice), parting_entries(once, Board(2, [])), parting_entries(once, twice, other_start=[0, 1])]
[[[[0, 0], [1, 0]], [[0, 1], [1, 1]]], True, [1], [0]]
""",
]
HIDDEN = [
    """
>>> from tokenlanes.boards import Board
>>> from tokenlanes.hidden import certain_pointers, possible_exits, possible_starts
>>> twice, three = Board(2, [(0, 1), (0, 1)]), Board(3, [(0, 1), (1, 2), (0, 1)])
>>> [possible_starts(twice, [(0, 1), (1, 0)]), certain_pointers(twice, [(0, 1)]), possible_exits(three, [(2, 2)], 2)]
[[[0, 1], [1, 1]], [None, 1], [0, 1]]
""",
    """
>>> from tokenlanes.boards import Board
>>> from tokenlanes.hidden import certain_pointers
>>> certain_pointers(Board(2, [(0, 1)]), [(0, 1), (0, 1)])
raises Contradiction(index=1)
""",
]
FLOWS = [
    """
>>> from tokenlanes.boards import Board
>>> from tokenlanes.flows import Flow
>>> flow = Flow(Board.full(2))
>>> tickets = [flow.enter(0), flow.enter(0)]
>>> early = [flow.numbers_to_come(), flow.numbers_open(0), flow.advance(0), flow.finish(1), flow.setting_now]
>>> [early, flow.inside_now, flow.numbers_open(0), flow.finish_all(), list(flow.events()), flow.amounts_now]
[[[0, 1], [0, 1], None, [0], [0, 0, 0, 1, 1, 0]], [(0, 0, 2)], [1], [1], [(1, 0), (0, 1)], [1, 1, 0, 0]]
""",
    """
>>> from tokenlanes.boards import Board
>>> from tokenlanes.flows import Flow
>>> flow = Flow(Board.full(2))
>>> tickets = [flow.enter(0), flow.give_back(3)]
>>> [flow.amounts_at_end(), flow.finish(1, 0), flow.setting_now, flow.amounts_now, len(flow)]
[[0, 0, 0, 0], [-1, -1], [1, 1, 0, 0, 0, 0], [0, 0, 0, 0], 0]
""",
]
TEXTS = [
    """
>>> from tokenlanes.boards import Board
>>> from tokenlanes.texts import read_board, read_setting, show_board, show_setting
>>> [show_board(Board.full(2)), show_setting(Board(2, []), []), read_setting(Board(2, [(1, 0)]), '1'), read_board('2: 1-0').gate_list]
['4: 0-1 2-3 0-3 1-2 0-1 2-3', '-', [1], [(1, 0)]]
""",
    """
>>> from tokenlanes.texts import read_board
>>> read_board('2: 0-2')
raises InvalidText
""",
]
DESK = [
    """
>>> from tokenlanes.desk import Desk
>>> desk = Desk()
>>> rows = ['board 2: 0-1', 'enter 1', 'enter 0', 'come', 'go 1', 'open 0', 'all', 'setting', 'amounts', 'counts']
>>> [desk.execute(row) for row in rows]
['ok', '0', '1', '0 1', '-', '1', '1 0', '0', '1 1', 'yes']
""",
    """
>>> from tokenlanes.desk import Desk
>>> Desk().execute('undo')
raises NoFlow
""",
]


class Examples(unittest.TestCase):
    def test_examples(self):
        for example in BOARDS + PASSING + NEUTRAL + SETTINGS + COUNTING + ALIKE + HIDDEN + FLOWS + TEXTS + DESK:
            with self.subTest(example=example):
                found, expected = outcome_of(example)
                self.assertEqual(found, expected)

    def test_a_wrong_example_is_noticed(self):
        found, expected = outcome_of("\n>>> from tokenlanes.boards import Board\n>>> len(Board(2, []))\n1\n")
        self.assertNotEqual(found, expected)


if __name__ == "__main__":
    unittest.main()
