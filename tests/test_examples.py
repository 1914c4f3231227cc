"""The examples of the document, as they stand in it."""

import unittest

from examples import outcome_of

BOARDS = [
    """
>>> from tokenlanes.boards import Board, is_setting
>>> full = Board(4, [(0, 1), (2, 3), (0, 3), (1, 2), (0, 1), (2, 3)])
>>> [full == Board.full(2), len(full), full.depth, Board.read('2:').gate_list, is_setting(full, [0, 0, 1, 1, 0, 0])]
[True, 6, 3, [], True]
""",
    """
>>> from tokenlanes.boards import Board
>>> Board(3, [(0, 1), (1, 1)])
raises InvalidGate(index=1)
""",
]
PASSING = [
    """
>>> from tokenlanes.boards import Board
>>> from tokenlanes.passing import amounts_after, numbers_of, run_tokens
>>> full, three = Board.full(2), Board(3, [(0, 1), (1, 2), (0, 1)])
>>> [run_tokens(full, [0, 0, 0, 3]), numbers_of(three, [2, 2, 2]), amounts_after(full, [1, 0, 0, -1])]
[([0, 1, 2, 3], [1, 1, 0, 0, 0, 0]), [0, 2, 1], ([0, 0, 0, 0], [1, 1, 0, 0, 0, 0])]
""",
    """
>>> from tokenlanes.boards import Board
>>> from tokenlanes.passing import amounts_after, exit_of
>>> full, three = Board.full(2), Board(3, [(0, 1), (1, 2), (0, 1)])
>>> [amounts_after(full, [10 ** 30, 0, 0, -2])[0][1:3], [exit_of(three, 0, number) for number in [0, 1, 2, 3, 10 ** 30 - 1]]]
[[250000000000000000000000000000, 249999999999999999999999999999], [0, 1, 0, 2, 2]]
""",
]


class Examples(unittest.TestCase):
    def test_examples(self):
        for example in BOARDS + PASSING:
            with self.subTest(example=example):
                found, expected = outcome_of(example)
                self.assertEqual(found, expected)

    def test_a_wrong_example_is_noticed(self):
        found, expected = outcome_of("\n>>> from tokenlanes.boards import Board\n>>> len(Board(2, []))\n1\n")
        self.assertNotEqual(found, expected)


if __name__ == "__main__":
    unittest.main()
