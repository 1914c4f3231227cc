"""Point 18: boards and settings that are alike, and the shortest entries that part the others."""

import itertools
import random
import unittest

from samples import FULL_TWO, all_settings, bare, full, random_cases, random_setting, three
from slow_model import send_in_turn
from slow_search import parting_list, send_one
from tokenlanes.alike import alike_settings, are_alike, parting_entries
from tokenlanes.boards import Board
from tokenlanes.counting import failing_entries

once, twice = Board(2, [(0, 1)]), Board(2, [(0, 1), (0, 1)])
CHAIN = Board(3, [(0, 1), (1, 2)] * 4)
EIGHT = [CHAIN, Board(2, [(0, 1)] * 8), Board(8, [(lane, (lane + 1) % 8) for lane in range(8)]),
         Board(4, [(0, 2), (1, 3)] + FULL_TWO), Board(4, FULL_TWO + [(0, 2), (1, 3)])]
# Boards whose shortest parting entries, with all pointers at 0, are long.
LONG = [
    (Board(3, [(1, 2), (0, 2), (0, 1), (0, 1), (2, 0), (2, 1), (1, 2), (2, 0)]),
     Board(3, [(1, 2), (0, 2), (0, 1), (1, 0), (2, 0), (2, 1), (1, 2), (2, 0)])),
    (Board(3, [(0, 2), (0, 1), (2, 0), (1, 2), (1, 0), (1, 0), (0, 1), (1, 2)]),
     Board(3, [(0, 2), (0, 1), (2, 0), (1, 2), (1, 0), (0, 2), (0, 1), (1, 2)])),
    (Board(3, [(1, 2), (2, 0), (2, 1), (0, 2), (1, 2), (0, 2), (0, 1), (0, 1)]),
     Board(3, [(1, 2), (2, 0), (2, 1), (0, 2), (1, 2), (0, 2), (0, 1), (0, 2)])),
]
# Boards with settings that only many tokens part.
LATE = [
    Board(3, [(2, 0), (1, 2), (2, 0), (2, 0), (1, 2), (2, 0), (0, 1)]),
    Board(3, [(0, 2), (2, 1), (0, 1), (2, 0), (0, 1), (0, 2), (0, 1)]),
    Board(3, [(0, 1), (2, 1), (0, 2), (2, 1), (0, 1), (0, 2), (1, 0), (1, 2)]),
]


def drawn_pairs(seed, many, most_gates=8):
    """Yield boards with the same number of lanes and a setting of each, often nearly alike."""
    for chance, board, start in random_cases(seed, many, most_gates):
        gates, setting = board.gate_list, list(start)
        for index in range(len(gates)):
            if chance.random() < 0.3:
                # A gate whose lanes change places does the same with the other pointer.
                gates[index], setting[index] = gates[index][::-1], 1 - setting[index]
        for index in range(len(gates)):
            if chance.random() < 0.1:
                gates[index] = tuple(chance.sample(range(board.lane_count), 2))
        if len(gates) < most_gates and chance.random() < 0.3:
            gates.insert(0, tuple(chance.sample(range(board.lane_count), 2)))
            setting.insert(0, chance.randint(0, 1))
        yield board, start, Board(board.lane_count, gates), setting


class Parting(unittest.TestCase):
    def check(self, board, start, other, other_start):
        expected = parting_list(board, start, other, other_start)
        with self.subTest(gates=board.gate_list, start=start, other=other.gate_list, other_start=other_start):
            told = parting_entries(board, other, start=start, other_start=other_start)
            self.assertEqual(told, expected)
            self.assertIs(are_alike(board, other, start=start, other_start=other_start), expected is None)
        return 0 if expected is None else len(expected)

    def test_drawn_boards(self):
        lengths = [self.check(*pair) for pair in drawn_pairs(91, 250)]
        self.assertLess(30, lengths.count(0))
        self.assertLessEqual({0, 1, 2, 3}, set(lengths))

    def test_boards_that_do_not_belong_together(self):
        for chance, board, start in random_cases(92, 60, most_gates=8):
            gates = [tuple(chance.sample(range(board.lane_count), 2)) for _ in range(chance.randint(0, 8))]
            other = Board(board.lane_count, gates)
            self.check(board, start, other, random_setting(chance, other))

    def test_two_settings_of_one_board(self):
        for chance, board, start in random_cases(93, 80, most_gates=8):
            self.check(board, start, board, random_setting(chance, board))
        for start, other_start in itertools.product(all_settings(three), repeat=2):
            self.check(three, start, three, other_start)

    def test_boards_with_two_lanes(self):
        gates = [list(row) for many in range(4) for row in itertools.product([(0, 1), (1, 0)], repeat=many)]
        boards = [Board(2, row) for row in gates]
        for board, other in itertools.product(boards, repeat=2):
            self.check(board, [0] * len(board), other, [0, 1, 0][:len(other)])

    def test_eight_gates(self):
        for board in EIGHT:
            settings = all_settings(board)
            for start, other_start in zip(settings[::25], settings[7::25]):
                self.check(board, start, board, other_start)
        self.check(EIGHT[3], [0] * 8, full, [0] * 6)
        self.check(full, [0] * 6, EIGHT[3], [0] * 8)
        self.check(EIGHT[3], [0] * 8, EIGHT[4], [0] * 8)

    def test_long_lists(self):
        lengths = [self.check(board, [0] * 8, other, [0] * 8) for board, other in LONG]
        self.assertEqual(lengths, [3, 10, 39])

    def test_against_all_lists_of_entries_in_their_order(self):
        found = []
        for board, start, other, other_start in itertools.chain(drawn_pairs(94, 100), long_pairs()):
            expected = first_parting(board, start, other, other_start, longest=3)
            told = parting_entries(board, other, start=start, other_start=other_start)
            if expected is None:
                self.assertTrue(told is None or len(told) > 3)
            else:
                self.assertEqual(told, expected)
            found.append(len(expected or []))
        self.assertEqual(set(found), {0, 1, 2, 3})

    def test_only_the_last_token_leaves_on_different_lanes(self):
        for board, start, other, other_start in itertools.chain(drawn_pairs(95, 100), long_pairs()):
            entries = parting_entries(board, other, start=start, other_start=other_start)
            if entries is not None:
                self.assertEqual({type(lane) for lane in entries}, {int})
                exits = send_in_turn(board, entries, start).exits
                other_exits = send_in_turn(other, entries, other_start).exits
                self.assertEqual(exits[:-1], other_exits[:-1])
                self.assertNotEqual(exits[-1], other_exits[-1])

    def test_plain_boards(self):
        told = [
            (bare, bare, None), (Board(8, []), Board(8, []), None), (once, bare, [1]), (bare, once, [1]),
            (once, twice, None), (twice, once, None), (once, Board(2, [(1, 0)]), [0]), (full, full, None),
            (full, Board(4, []), [1]), (Board(8, [(7, 6)]), Board(8, []), [6]),
        ]
        for board, other, entries in told:
            with self.subTest(gates=board.gate_list, other=other.gate_list):
                self.assertEqual(parting_entries(board, other), entries)
                self.assertIs(are_alike(board, other), entries is None)

    def test_without_starts_all_pointers_are_0(self):
        for board, start, other, other_start in drawn_pairs(96, 30):
            zeros, other_zeros = [0] * len(board), [0] * len(other)
            for one, two, named in [
                (zeros, other_zeros, {}), (start, other_zeros, {"start": start}),
                (zeros, other_start, {"other_start": other_start}), (zeros, other_zeros, {"start": None}),
                (zeros, other_zeros, {"start": None, "other_start": None}),
            ]:
                expected = parting_list(board, one, other, two)
                self.assertEqual(parting_entries(board, other, **named), expected)
                self.assertIs(are_alike(board, other, **named), expected is None)

    def test_the_other_way_around(self):
        for board, start, other, other_start in drawn_pairs(97, 60):
            there = parting_entries(board, other, start=start, other_start=other_start)
            back = parting_entries(other, board, start=other_start, other_start=start)
            self.assertEqual(there, back)

    def test_boards_that_count_are_alike(self):
        starts = [start for start in all_settings(full) if failing_entries(full, start=start) is None]
        for board in [full, Board(4, [(0, 1), (1, 3)] + FULL_TWO), EIGHT[3]]:
            for start in starts:
                self.assertIs(are_alike(full, board, start=start), True)


def long_pairs():
    return [(board, [0] * 8, other, [0] * 8) for board, other in LONG]


def first_parting(board, start, other, other_start, longest):
    """Return the first list of entries whose last token leaves on different lanes, of all up to a length."""
    for many in range(1, longest + 1):
        for entries in itertools.product(range(board.lane_count), repeat=many):
            exits = send_in_turn(board, entries, start).exits
            if exits[-1] != send_in_turn(other, entries, other_start).exits[-1]:
                return list(entries)
    return None


class AlikeSettings(unittest.TestCase):
    def test_against_a_plain_search(self):
        for _, board, _ in random_cases(98, 40, most_gates=4):
            with self.subTest(lanes=board.lane_count, gates=board.gate_list):
                self.assertEqual(alike_settings(board), plain_classes(board))

    def test_plain_boards(self):
        told = [
            (bare, [[[]]]), (Board(8, []), [[[]]]), (once, [[[0]], [[1]]]),
            (twice, [[[0, 0], [1, 0]], [[0, 1], [1, 1]]]), (three, plain_classes(three)),
            (Board(4, [(0, 1), (2, 3)]), [[[0, 0]], [[0, 1]], [[1, 0]], [[1, 1]]]),
            (Board(3, [(0, 1), (0, 1), (2, 1)]), plain_classes(Board(3, [(0, 1), (0, 1), (2, 1)]))),
        ]
        for board, classes in told:
            with self.subTest(gates=board.gate_list):
                self.assertEqual(alike_settings(board), classes)

    def test_all_settings_are_told_once_in_ascending_order(self):
        for _, board, _ in random_cases(99, 60, most_gates=8):
            classes = alike_settings(board)
            self.assertEqual(classes, sorted(classes))
            for settings in classes:
                self.assertEqual(settings, sorted(settings))
            told = [setting for settings in classes for setting in settings]
            self.assertEqual(sorted(told), all_settings(board))

    def test_settings_of_one_class_stay_together(self):
        drawn = [board for _, board, _ in random_cases(100, 15, most_gates=8)]
        for board in drawn + EIGHT + LATE:
            marks = {tuple(setting): mark for mark, told in enumerate(alike_settings(board)) for setting in told}
            moves = {}
            for setting, mark in marks.items():
                tokens = [send_one(board, setting, lane) for lane in range(board.lane_count)]
                found = [(way_out, marks[after]) for way_out, after in tokens]
                self.assertEqual(moves.setdefault(mark, found), found)

    def test_settings_of_two_classes_are_parted(self):
        chance = random.Random(101)
        drawn = [board for _, board, _ in random_cases(102, 25, most_gates=8)]
        for board in drawn + EIGHT + LATE:
            firsts = [settings[0] for settings in alike_settings(board)]
            pairs = list(zip(firsts, firsts[1:])) + [chance.sample(firsts, 2) for _ in range(40) if len(firsts) > 1]
            for one, other in pairs[:60]:
                entries = parting_entries(board, board, start=one, other_start=other)
                self.assertIsNotNone(entries)
                exits = send_in_turn(board, entries, one).exits
                self.assertNotEqual(exits, send_in_turn(board, entries, other).exits)

    def test_it_agrees_with_are_alike(self):
        for chance, board, _ in random_cases(103, 40, most_gates=8):
            marks = [(mark, setting) for mark, told in enumerate(alike_settings(board)) for setting in told]
            for _ in range(20):
                (one, start), (other, other_start) = chance.choice(marks), chance.choice(marks)
                self.assertIs(are_alike(board, board, start=start, other_start=other_start), one == other)


def plain_classes(board):
    """Return the settings by which ones no entries part, each setting compared with each class."""
    classes = []
    for setting in all_settings(board):
        for told in classes:
            if parting_list(board, setting, board, told[0]) is None:
                told.append(setting)
                break
        else:
            classes.append([setting])
    return classes


if __name__ == "__main__":
    unittest.main()
