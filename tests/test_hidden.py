"""What seen tokens tell about a hidden setting, against a search over all settings."""

import random
import unittest

from samples import all_settings, bare, full, raised, random_cases, three
from slow_model import send_in_turn
from slow_search import first_without_start, starts_by_search
from tokenlanes.alike import alike_settings
from tokenlanes.boards import Board
from tokenlanes.hidden import certain_pointers, possible_exits, possible_starts

EIGHT = [
    Board(3, [(0, 1), (1, 2)] * 4), Board(2, [(0, 1)] * 8), Board(8, [(lane, (lane + 1) % 8) for lane in range(8)]),
    Board(4, full.gate_list + [(0, 2), (1, 3)]),
]


def seen_from(board, start, entries):
    """Return seen tokens that have a start."""
    return list(zip(entries, send_in_turn(board, entries, start).exits))


def entries_of(chance, board, most):
    return [chance.randrange(board.lane_count) for _ in range(chance.randint(0, most))]


def exits_of(board, starts, seen, lane):
    """Return the lanes on which a further token leaves, from one of the starts."""
    entries = [entry for entry, _ in seen] + [lane]
    return sorted({send_in_turn(board, entries, start).exits[-1] for start in starts})


def common_pointers(board, starts):
    found = []
    for index in range(len(board)):
        pointers = [start[index] for start in starts]
        found.append(pointers[0] if len(set(pointers)) == 1 else None)
    return found


class SeenTokens(unittest.TestCase):
    def compare(self, board, seen):
        settings = all_settings(board)
        starts = starts_by_search(board, seen, settings)
        self.assertEqual(possible_starts(board, seen), starts)
        if not starts:
            index = first_without_start(board, seen, settings)
            self.assertEqual(raised(certain_pointers, board, seen), ("Contradiction", {"index": index}))
            for lane in range(board.lane_count):
                self.assertEqual(raised(possible_exits, board, seen, lane), ("Contradiction", {"index": index}))
            return
        self.assertEqual(certain_pointers(board, seen), common_pointers(board, starts))
        for lane in range(board.lane_count):
            self.assertEqual(possible_exits(board, seen, lane), exits_of(board, starts, seen, lane))

    def test_tokens_that_have_a_start(self):
        for chance, board, start in random_cases(151, 100, most_gates=6):
            with self.subTest(gates=board.gate_list, start=start):
                seen = seen_from(board, start, entries_of(chance, board, 7))
                self.compare(board, seen)
                self.assertIn(start, possible_starts(board, seen))

    def test_tokens_with_one_wrong_exit(self):
        for chance, board, start in random_cases(152, 100, most_gates=6):
            seen = seen_from(board, start, entries_of(chance, board, 7) + [0])
            place = chance.randrange(len(seen))
            seen[place] = (seen[place][0], chance.randrange(board.lane_count))
            with self.subTest(gates=board.gate_list, seen=seen):
                self.compare(board, seen)

    def test_tokens_that_are_drawn(self):
        chance = random.Random(153)
        for _ in range(100):
            lanes = chance.randint(2, 3)
            board = Board(lanes, [tuple(chance.sample(range(lanes), 2)) for _ in range(chance.randint(0, 6))])
            seen = [(chance.randrange(lanes), chance.randrange(lanes)) for _ in range(chance.randint(0, 5))]
            with self.subTest(gates=board.gate_list, seen=seen):
                self.compare(board, seen)

    def test_all_lists_of_few_tokens(self):
        board = Board(2, [(0, 1), (1, 0)])
        lists = [[]]
        for _ in range(3):
            lists = lists + [[*seen, (one, other)] for seen in lists for one in (0, 1) for other in (0, 1)]
        for seen in lists:
            self.compare(board, seen)

    def test_eight_gates(self):
        chance = random.Random(154)
        for board in EIGHT:
            for many in [0, 1, 4]:
                start = [chance.randint(0, 1) for _ in range(8)]
                self.compare(board, seen_from(board, start, [chance.randrange(board.lane_count) for _ in range(many)]))
            self.compare(board, [(0, 0), (0, 0), (0, 0)])
            self.assertEqual(len(possible_starts(board, [])), 256)

    def test_four_hundred_tokens(self):
        chance = random.Random(155)
        for board in [full, EIGHT[0], Board(8, [(0, 7)] * 8)]:
            start = [chance.randint(0, 1) for _ in range(len(board))]
            seen = seen_from(board, start, [chance.randrange(board.lane_count) for _ in range(400)])
            self.assertEqual(possible_starts(board, seen), starts_by_search(board, seen, possible_starts(board, seen)))
            self.assertIn(start, possible_starts(board, seen))
            seen[399] = (seen[399][0], (seen[399][1] + 1) % board.lane_count)
            self.assertEqual(possible_starts(board, seen), [])
            self.assertEqual(raised(certain_pointers, board, seen), ("Contradiction", {"index": 399}))

    def test_entries_and_exits_may_be_the_same_lane(self):
        self.assertEqual(possible_starts(Board(2, [(0, 1)]), [(0, 0), (1, 1)]), [[0]])
        self.assertEqual(possible_exits(Board(3, [(0, 1)]), [(2, 2)], 2), [2])


class NoSeenTokens(unittest.TestCase):
    def test_all_settings_are_starts(self):
        for _, board, _ in random_cases(156, 30, most_gates=8):
            self.assertEqual(possible_starts(board, []), all_settings(board))
            self.assertEqual(certain_pointers(board, []), [None] * len(board))

    def test_exits(self):
        self.assertEqual([possible_exits(three, [], lane) for lane in range(3)], [[0, 1, 2], [0, 1, 2], [0, 1, 2]])
        board = Board(4, [(3, 1)])
        self.assertEqual([possible_exits(board, [], lane) for lane in range(4)], [[0], [1, 3], [2], [1, 3]])

    def test_boards_without_gates(self):
        for board in [bare, Board(8, [])]:
            self.assertEqual([possible_starts(board, []), certain_pointers(board, [])], [[[]], []])
            seen = [(lane, lane) for lane in range(board.lane_count)]
            self.assertEqual([possible_starts(board, seen), certain_pointers(board, seen)], [[[]], []])
            for lane in range(board.lane_count):
                self.assertEqual(possible_exits(board, seen, lane), [lane])
            wrong = seen + [(1, 0), (0, 1)]
            self.assertEqual(possible_starts(board, wrong), [])
            expected = ("Contradiction", {"index": board.lane_count})
            self.assertEqual(raised(certain_pointers, board, wrong), expected)
            self.assertEqual(raised(possible_exits, board, wrong, 0), expected)


class Contradictions(unittest.TestCase):
    def test_the_least_index(self):
        once = Board(2, [(0, 1)])
        for many in range(0, 12, 2):
            # The pointer of the gate tells the exits of all tokens, the last ones are wrong.
            seen = [(0, 0), (1, 1)] * many + [(0, 1), (0, 1), (1, 0)]
            self.assertEqual(possible_starts(once, seen), [])
            index = 2 * many if many else 1
            self.assertEqual(raised(certain_pointers, once, seen), ("Contradiction", {"index": index}))
            self.assertEqual(raised(possible_exits, once, seen, 1), ("Contradiction", {"index": index}))

    def test_at_the_first_token(self):
        for board in [bare, Board(4, [(2, 3)]), Board(4, [(2, 3)] * 8)]:
            self.assertEqual(raised(certain_pointers, board, [(0, 1)]), ("Contradiction", {"index": 0}))
            self.assertEqual(raised(possible_exits, board, [(1, 0), (0, 0)], 0), ("Contradiction", {"index": 0}))

    def test_later_tokens_do_not_matter(self):
        for chance, board, start in random_cases(157, 30, most_gates=5):
            seen = seen_from(board, start, entries_of(chance, board, 5))
            wrong = [(0, exit_lane) for exit_lane in range(board.lane_count)] * 3
            index = first_without_start(board, seen + wrong, all_settings(board))
            for many in [index + 1, index + 2, len(seen + wrong)]:
                found = raised(certain_pointers, board, (seen + wrong)[:many])
                self.assertEqual(found, ("Contradiction", {"index": index}))
            self.assertIsNone(raised(certain_pointers, board, (seen + wrong)[:index]))


class Groups(unittest.TestCase):
    """The starts are whole groups of alike settings."""

    def test_alike_settings_are_starts_together(self):
        for chance, board, start in random_cases(158, 60, most_gates=8):
            seen = seen_from(board, start, entries_of(chance, board, 5))
            starts = possible_starts(board, seen)
            groups = [group for group in alike_settings(board) if group[0] in starts]
            self.assertEqual(sorted([setting for group in groups for setting in group]), starts)

    def test_enough_tokens_leave_one_group(self):
        for chance, board, start in random_cases(159, 20, most_gates=5):
            seen = seen_from(board, start, [chance.randrange(board.lane_count) for _ in range(400)])
            starts = possible_starts(board, seen)
            told = [group for group in alike_settings(board) if start in group][0]
            self.assertEqual(starts, told)

    def test_all_exits_of_alike_settings_are_certain(self):
        for _, board, _ in random_cases(160, 30, most_gates=4):
            for group in alike_settings(board):
                seen = seen_from(board, group[0], list(range(board.lane_count)) * 12)
                if possible_starts(board, seen) == group:
                    for lane in range(board.lane_count):
                        self.assertEqual(len(possible_exits(board, seen, lane)), 1)


if __name__ == "__main__":
    unittest.main()
