"""Point 20: the texts of boards and settings, in both directions."""

import itertools
import unittest

from samples import FULL_THREE, HUGE, NOT_BOARDS, NOT_INTEGERS, NOT_LISTS, bare, full, nested, raised, random_cases
from samples import three
from text_samples import NO_TEXTS, is_board_text, one_sign_other, text_of
from tokenlanes.boards import Board
from tokenlanes.texts import read_board, read_setting, show_board, show_setting

INVALID_TEXT = ("InvalidText", {})
NO_STRINGS = [value for value in NOT_LISTS + NOT_INTEGERS if not isinstance(value, str)] + [
    0, 1, 10, b"0", b"-", ["0"], ["-"], ("0",), [0], nested("0", 20), bare, str,
]
ONE = Board(2, [(0, 1)])
MOST = Board(8, FULL_THREE)


class BoardTexts(unittest.TestCase):
    def test_the_texts_of_the_document(self):
        self.assertEqual(show_board(three), "3: 0-1 1-2 0-1")
        self.assertEqual(show_board(bare), "2:")
        self.assertEqual(read_board("3: 0-1 1-2 0-1"), three)
        self.assertEqual(read_board("2:"), bare)

    def test_each_board_and_its_text(self):
        for _, board, _ in random_cases(171, 300):
            text = show_board(board)
            self.assertEqual(text, text_of(board.lane_count, board.gate_list))
            found = read_board(text)
            self.assertEqual((type(found), found), (Board, board))
            self.assertEqual((found.lane_count, found.gate_list), (board.lane_count, board.gate_list))

    def test_edges(self):
        self.assertEqual(show_board(Board(8, [])), "8:")
        self.assertEqual(show_board(Board(2, [(1, 0)])), "2: 1-0")
        self.assertEqual(show_board(MOST), text_of(8, FULL_THREE))
        self.assertEqual(read_board(show_board(MOST)), MOST)
        self.assertEqual(raised(read_board, show_board(MOST) + " 0-1"), INVALID_TEXT)

    def test_other_boards_have_other_texts(self):
        gates = list(itertools.permutations(range(3), 2))
        boards = [Board(lanes, list(told)) for lanes in (3, 4) for many in range(3)
                  for told in itertools.product(gates, repeat=many)]
        self.assertEqual(len({show_board(board) for board in boards}), len(boards))

    def test_texts_with_one_sign_other(self):
        for text in ["2:", "3: 0-1 1-2", "8: 7-0"]:
            for other in one_sign_other(text, " 0123456789:-+"):
                with self.subTest(other=other):
                    self.assertEqual(raised(read_board, other), None if is_board_text(other) else INVALID_TEXT)

    def test_other_texts(self):
        for text in NO_TEXTS:
            with self.subTest(text=text):
                self.assertEqual(raised(read_board, text), INVALID_TEXT)

    def test_values_that_are_no_texts(self):
        for wrong in NO_STRINGS:
            with self.subTest(wrong=wrong):
                self.assertEqual(raised(read_board, wrong), INVALID_TEXT)

    def test_values_that_are_no_boards(self):
        for wrong in NOT_BOARDS:
            with self.subTest(wrong=wrong):
                self.assertEqual(raised(show_board, wrong), ("InvalidBoard", {}))


class SettingTexts(unittest.TestCase):
    def test_each_setting_and_its_text(self):
        for _, board, setting in random_cases(172, 300):
            text = show_setting(board, setting)
            self.assertEqual(text, "".join("01"[pointer] for pointer in setting) or "-")
            self.assertEqual(read_setting(board, text), setting)

    def test_no_gates(self):
        for board in [bare, Board(8, [])]:
            self.assertEqual([show_setting(board, []), read_setting(board, "-")], ["-", []])
            for text in ["", "--", " -", "- ", "0", "1", "-0", "0-", "[]", " ", "None"]:
                self.assertEqual(raised(read_setting, board, text), INVALID_TEXT)

    def test_edges(self):
        self.assertEqual([show_setting(ONE, [1]), read_setting(ONE, "0")], ["1", [0]])
        self.assertEqual(show_setting(MOST, [1] * 24), "1" * 24)
        self.assertEqual(read_setting(MOST, "01" * 12), [0, 1] * 12)

    def test_texts_with_one_sign_other(self):
        for board, text in [(three, "010"), (ONE, "1"), (full, "110100"), (bare, "-")]:
            for other in one_sign_other(text, " 01-2+9a:"):
                good = len(other) == len(board) and all(sign in "01" for sign in other) and other != ""
                with self.subTest(text=text, other=other):
                    self.assertEqual(raised(read_setting, board, other), None if good else INVALID_TEXT)

    def test_other_texts(self):
        for text in ["", "-", "0", "00", "0000", "000 ", " 000", "0 0 0", "0,0,0", "[0, 0, 0]", "00\n", "0b1", "002",
                     "--0", "00-", "-00", "+00", "0.0", "O00", "\u0660\u0660\u0660", "0" * 4000, "\u00b9\u00b9\u00b9"]:
            with self.subTest(text=text):
                self.assertEqual(raised(read_setting, three, text), INVALID_TEXT)

    def test_values_that_are_no_texts(self):
        for board in [bare, ONE, three]:
            for wrong in NO_STRINGS:
                with self.subTest(wrong=wrong):
                    self.assertEqual(raised(read_setting, board, wrong), INVALID_TEXT)

    def test_values_that_are_no_settings(self):
        pointers = [2, -1, HUGE] + NOT_INTEGERS
        lists = [[], [0], [0] * 5, [0] * 7, [0] * 400] + [[0, 1, 0, pointer, 0, 1] for pointer in pointers]
        for wrong in lists + NOT_LISTS + [(0,) * 6, "000000", [[0] * 6], None]:
            with self.subTest(wrong=wrong):
                self.assertEqual(raised(show_setting, full, wrong), ("InvalidSetting", {}))
        for wrong in NOT_LISTS + [[0], [[]], [None], "-"]:
            with self.subTest(wrong=wrong):
                self.assertEqual(raised(show_setting, bare, wrong), ("InvalidSetting", {}))

    def test_no_board_comes_first(self):
        for wrong in NOT_BOARDS:
            for value in [[], [2], None, "-", "0"]:
                with self.subTest(wrong=wrong, value=value):
                    self.assertEqual(raised(show_setting, wrong, value), ("InvalidBoard", {}))
                    self.assertEqual(raised(read_setting, wrong, value), ("InvalidBoard", {}))

    def test_results_are_new_and_arguments_stay(self):
        setting = [0, 1, 1]
        self.assertEqual([show_setting(three, setting), setting], ["011", [0, 1, 1]])
        found = read_setting(three, "011")
        found.clear()
        self.assertEqual(read_setting(three, "011"), [0, 1, 1])
        self.assertIsNot(read_setting(bare, "-"), read_setting(bare, "-"))


if __name__ == "__main__":
    unittest.main()
