"""Reading the texts of boards by the class itself."""

import random
import unittest

from samples import FULL_THREE, FULL_TWO, NOT_LISTS, bare, raised, random_board
from text_samples import NO_TEXTS, text_of
from tokenlanes.boards import Board


class Reading(unittest.TestCase):
    def test_the_texts_of_the_document(self):
        self.assertEqual(Board.read("3: 0-1 1-2 0-1"), Board(3, [(0, 1), (1, 2), (0, 1)]))
        self.assertEqual(Board.read("2:"), bare)
        self.assertEqual(Board.read("4: 0-1 2-3 0-3 1-2 0-1 2-3"), Board(4, FULL_TWO))

    def test_the_first_lane_stands_first(self):
        self.assertEqual(Board.read("4: 3-1 0-2").gate_list, [(3, 1), (0, 2)])

    def test_all_numbers_of_lanes(self):
        for lanes in range(2, 9):
            with self.subTest(lanes=lanes):
                last = lanes - 1
                self.assertEqual(Board.read(f"{lanes}:"), Board(lanes, []))
                self.assertEqual(Board.read(f"{lanes}: 0-{last} {last}-0"), Board(lanes, [(0, last), (last, 0)]))

    def test_every_board_has_its_text(self):
        chance = random.Random(20)
        for _ in range(300):
            board = random_board(chance)
            text = text_of(board.lane_count, board.gate_list)
            with self.subTest(text=text):
                self.assertEqual(Board.read(text), board)
                self.assertIs(type(Board.read(text)), Board)

    def test_24_gates_and_no_more(self):
        self.assertEqual(Board.read(text_of(8, FULL_THREE)), Board.full(3))
        self.assertEqual(raised(Board.read, text_of(8, FULL_THREE + [(0, 1)])), ("InvalidText", {}))
        self.assertEqual(raised(Board.read, "2:" + " 0-1" * 25), ("InvalidText", {}))

    def test_other_texts(self):
        for text in NO_TEXTS:
            with self.subTest(text=text):
                self.assertEqual(raised(Board.read, text), ("InvalidText", {}))

    def test_a_text_with_one_sign_removed_or_added_is_another_one(self):
        text = "3: 0-1 1-2"
        for place in range(len(text)):
            with self.subTest(place=place):
                self.assertEqual(raised(Board.read, text[:place] + text[place + 1:]), ("InvalidText", {}))
        for place in range(len(text) + 1):
            for sign in " 0-:":
                with self.subTest(place=place, sign=sign):
                    self.assertEqual(raised(Board.read, text[:place] + sign + text[place:]), ("InvalidText", {}))

    def test_long_texts(self):
        for text in ["2:" + " 0-1" * 999, "2" * 4000, ":" * 4000, " " * 4000, "2: " + "0" * 3990 + "-1"]:
            self.assertEqual(raised(Board.read, text), ("InvalidText", {}))

    def test_values_that_are_no_texts(self):
        wrong_values = [value for value in NOT_LISTS if not isinstance(value, str)]
        wrong_values += [2, b"2:", b"2: 0-1", ["2:"], ("2:",), ["2", ":"], ("2", ":"), {"2:": 1}, str, bare]
        for wrong in wrong_values:
            with self.subTest(wrong=wrong):
                self.assertEqual(raised(Board.read, wrong), ("InvalidText", {}))


if __name__ == "__main__":
    unittest.main()
