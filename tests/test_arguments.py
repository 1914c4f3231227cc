"""Point 3: arguments stay as they are, results are new, and later changes have no effect."""

import copy
import unittest

from samples import FULL_TWO, HUGE, raised
from tokenlanes.alike import alike_settings, are_alike, parting_entries
from tokenlanes.boards import Board, is_setting
from tokenlanes.counting import failing_entries, is_counting
from tokenlanes.hidden import certain_pointers, possible_exits, possible_starts
from tokenlanes.neutral import basis_of, count_reachable, free_gates, have_same_effect, is_neutral, period_of
from tokenlanes.passing import amounts_after, exit_of, numbers_of, run_tokens, walk_exits
from tokenlanes.settings import classes_of, fewest_tokens, reachable
from tokenlanes.texts import read_setting, show_board, show_setting


def walk_a_while(board, lane, *, start=None):
    walk = walk_exits(board, lane, start=start)
    return [next(walk) for _ in range(20)]


def calls():
    """Return new arguments for each function: good ones, and some that raise an error."""
    return [
        (run_tokens, [0, 0, 0, 3], [0, 1, 0, 1, 0, 1]), (run_tokens, [], [1] * 6), (run_tokens, [0, 4], [1] * 6),
        (run_tokens, [0, 1], [1] * 5), (numbers_of, [0, 0, 0, 3], [0, 1, 0, 1, 0, 1]), (numbers_of, [4], [1] * 6),
        (numbers_of, [0, 1], [2] * 6), (amounts_after, [5, -3, 10 ** 30, 0], [0, 1, 0, 1, 0, 1]),
        (amounts_after, [5, -3, 10 ** 30, True], [0] * 6), (amounts_after, [5, -3, 1, 0], [0] * 7),
        (walk_a_while, 2, [0, 1, 0, 1, 0, 1]), (walk_a_while, 2, [0, 1, 0]),
    ]


def searches():
    """Return new arguments for each function of the other files: good ones, and some that raise an error."""
    start = [0, 1, 0, 1, 0, 1]
    few, many = Board(4, [(3, 0)]), Board(4, FULL_TWO * 4)
    return [
        (is_neutral, [[2, 0, 2, 0]], {}), (is_neutral, [[HUGE, 0, 0, -HUGE]], {}), (is_neutral, [[1, 0, 0]], {}),
        (have_same_effect, [[1, 0, 0, 0], [0, 1, 4, 0]], {}), (have_same_effect, [[1, 0, 0, 0], [0, 1, 4, True]], {}),
        (have_same_effect, [[HUGE] * 4, [-HUGE] * 4], {}), (free_gates, [], {}), (count_reachable, [], {}),
        (period_of, [0], {}), (basis_of, [], {}),
        (reachable, [], {"start": list(start)}), (reachable, [], {"start": [0] * 5}),
        (fewest_tokens, [[1, 1, 0, 0, 0, 0]], {"start": [0] * 6}), (fewest_tokens, [[0] * 5], {"start": list(start)}),
        (fewest_tokens, [[1, 0, 0, 0, 0, 0]], {"start": [0] * 6}),
        (fewest_tokens, [list(start)], {"start": list(start)}),
        (classes_of, [], {}), (is_counting, [], {"start": list(start)}), (failing_entries, [], {"start": list(start)}),
        (failing_entries, [], {"start": [0] * 7}), (alike_settings, [], {}),
        (are_alike, [few], {"start": list(start), "other_start": [1]}), (are_alike, [few], {"start": [0] * 5}),
        (parting_entries, [few], {"start": list(start), "other_start": [1]}),
        (parting_entries, [many], {"start": list(start), "other_start": [0] * 24}),
        (possible_starts, [[(0, 1), (2, 3), (1, 1)]], {}), (possible_starts, [[]], {}),
        (possible_starts, [[(0, 4)]], {}),
        (certain_pointers, [[(0, 1), (2, 3), (1, 1)]], {}), (certain_pointers, [[(2, 3), (2, 3), (2, 3)]], {}),
        (possible_exits, [[(0, 1), (2, 3), (1, 1)], 2], {}), (possible_exits, [[(2, 3), (2, 3)], 1], {}),
        (show_board, [], {}), (show_setting, [list(start)], {}), (show_setting, [[0] * 5], {}),
        (read_setting, ["010101"], {}), (read_setting, ["01010"], {}),
    ]


def spoil(value):
    """Change a result in all places, also the lists inside of it."""
    if isinstance(value, list):
        for item in value:
            spoil(item)
        value.append("spoilt")
        value[0] = "spoilt"


def lists_in(value):
    """Return a list and all lists inside of it."""
    if not isinstance(value, list):
        return []
    return [value] + [found for item in value for found in lists_in(item)]


class ArgumentsStay(unittest.TestCase):
    def test_lists_given_to_functions(self):
        for call, value, start in calls():
            with self.subTest(call=call.__name__, value=value, start=start):
                board = Board(4, list(FULL_TWO))
                before = copy.deepcopy((value, start))
                raised(call, board, value, start=start)
                self.assertEqual((value, start), before)
                self.assertEqual((board.lane_count, board.gate_list), (4, FULL_TWO))

    def test_lists_given_to_searches(self):
        for call, values, named in searches():
            with self.subTest(call=call.__name__, values=values, named=named):
                board = Board(4, list(FULL_TWO))
                lists = [value for value in [*values, *named.values()] if isinstance(value, list)]
                before = copy.deepcopy(lists)
                others = [(value, value.lane_count, value.gate_list) for value in values if isinstance(value, Board)]
                raised(call, board, *values, **named)
                self.assertEqual(lists, before)
                self.assertEqual((board.lane_count, board.gate_list), (4, FULL_TWO))
                self.assertEqual([(other.lane_count, other.gate_list) for other, _, _ in others],
                                 [(lanes, gates) for _, lanes, gates in others])

    def test_start_of_exit_of(self):
        start = [0, 1, 0, 1, 0, 1]
        exit_of(Board.full(2), 1, 5, start=start)
        self.assertEqual(start, [0, 1, 0, 1, 0, 1])

    def test_lists_given_to_boards(self):
        good, wrong, setting = [(0, 1), (1, 0)], [(0, 1), None], [0, 1]
        board = Board(2, good)
        raised(Board, 2, wrong)
        is_setting(board, setting)
        board.followed_by(board)
        self.assertEqual((good, wrong, setting), ([(0, 1), (1, 0)], [(0, 1), None], [0, 1]))


class ResultsAreNew(unittest.TestCase):
    def test_results_that_are_equal_to_an_argument(self):
        for gates in [[], [(0, 1)]]:
            entries, amounts, start = [], [0, 0], [0] * len(gates)
            board = Board(2, gates)
            exits, setting = run_tokens(board, entries, start=start)
            leaving, after = amounts_after(board, amounts, start=start)
            self.assertIsNot(exits, entries)
            self.assertIsNot(leaving, amounts)
            self.assertIsNot(setting, start)
            self.assertIsNot(after, start)
            self.assertIsNot(numbers_of(board, entries), entries)
            for result in (exits, setting, leaving, after):
                result.append(9)
            self.assertEqual((entries, amounts, start), ([], [0, 0], [0] * len(gates)))

    def test_changed_results_have_no_effect_on_later_ones(self):
        for call, value in [(run_tokens, [0, 1, 3]), (amounts_after, [1, 2, -3, 4])]:
            board = Board(4, FULL_TWO)
            first = call(board, value)
            kept = copy.deepcopy(first)
            for part in first:
                part[0] = 7
                part.append(8)
            self.assertEqual(call(board, value), kept)
        numbers = numbers_of(board, [0, 1, 3])
        numbers.clear()
        self.assertEqual(numbers_of(board, [0, 1, 3]), [0, 1, 2])

    def test_changed_results_of_searches_have_no_effect_on_later_ones(self):
        board = Board(4, FULL_TWO)
        for call, values, named in searches():
            if raised(call, board, *values, **named) is None:
                with self.subTest(call=call.__name__, values=values, named=named):
                    first = call(board, *values, **named)
                    kept = copy.deepcopy(first)
                    spoil(first)
                    self.assertEqual(call(board, *values, **named), kept)
                    self.assertEqual(call(Board(4, FULL_TWO), *values, **named), kept)
                    self.assertEqual((board.lane_count, board.gate_list), (4, FULL_TWO))

    def test_each_list_in_a_result_is_an_object_of_its_own(self):
        for gates in [[], [(0, 1)], FULL_TWO]:
            board = Board(4, gates)
            setting, many = [0] * len(gates), Board(4, [(1, 2)] * len(gates))
            results = [
                free_gates(board), basis_of(board), reachable(board), reachable(board, start=setting),
                fewest_tokens(board, setting), fewest_tokens(board, setting, start=setting), classes_of(board),
                failing_entries(board), failing_entries(board, start=setting), alike_settings(board),
                possible_starts(board, []), possible_starts(board, [(3, 3)]), certain_pointers(board, []),
                possible_exits(board, [], 0), read_setting(board, show_setting(board, setting)),
                parting_entries(board, many, start=setting, other_start=setting),
            ]
            found = [each for result in results for each in lists_in(result)] + [setting, board.gate_list]
            self.assertEqual(len({id(each) for each in found}), len(found))

    def test_changed_gate_lists_have_no_effect(self):
        boards = [Board(4, FULL_TWO), Board.full(2), Board.read("4: 0-1 2-3 0-3 1-2 0-1 2-3")]
        boards.append(Board(4, FULL_TWO[:3]).followed_by(Board(4, FULL_TWO[3:])))
        boards.append(Board(4, []).followed_by(Board(4, FULL_TWO)))
        boards.append(Board(4, FULL_TWO).followed_by(Board(4, [])))
        for board in boards:
            self.assertIsNot(board.gate_list, board.gate_list)
            gates = board.gate_list
            gates[0] = (1, 3)
            gates.append((0, 2))
            board.gate_list.clear()
            self.assertEqual((board.gate_list, len(board), board.depth), (FULL_TWO, 6, 3))
            self.assertEqual(run_tokens(board, [0, 0, 0, 3])[0], [0, 1, 2, 3])
        self.assertEqual(Board.full(2).gate_list, FULL_TWO)

    def test_boards_that_were_joined_stay_apart(self):
        first, second = Board(2, [(0, 1)]), Board(2, [(1, 0)])
        both = first.followed_by(second)
        for board in [first, second, both]:
            board.gate_list.append((1, 0))
        self.assertEqual([len(first), len(second), len(both)], [1, 1, 2])


class LaterChanges(unittest.TestCase):
    def test_gates_changed_before_a_search(self):
        gates = list(FULL_TWO)
        board = Board(4, gates)
        gates[0] = (1, 3)
        gates.append((0, 2))
        board.gate_list.clear()
        for call, values, named in searches():
            if raised(call, board, *values, **named) is None:
                with self.subTest(call=call.__name__, values=values, named=named):
                    found = call(Board(4, FULL_TWO), *values, **named)
                    self.assertEqual(call(board, *values, **named), found)

    def test_gates_changed_after_the_board_was_made(self):
        gates = list(FULL_TWO)
        board = Board(4, gates)
        gates[0] = (1, 3)
        gates.append((0, 2))
        self.assertEqual((board.gate_list, len(board), board == Board.full(2)), (FULL_TWO, 6, True))
        gates.clear()
        self.assertEqual(numbers_of(board, [0, 0, 0, 3]), [0, 1, 2, 3])

    def test_start_changed_while_a_walk_goes_on(self):
        start = [0, 1, 0, 1, 0, 1]
        expected = run_tokens(Board.full(2), [0] * 10, start=start)[0]
        walk = walk_exits(Board.full(2), 0, start=start)
        walked = [next(walk)]
        start[0] = 1
        walked += [next(walk) for _ in range(4)]
        start.clear()
        walked += [next(walk) for _ in range(5)]
        self.assertEqual(walked, expected)

    def test_boards_stay_as_they_are_after_errors(self):
        board = Board(2, [(0, 1)])
        raised(board.followed_by, Board(2, [(0, 1)] * 24))
        raised(board.followed_by, None)
        raised(run_tokens, board, [0, 2])
        self.assertEqual((board.gate_list, run_tokens(board, [0])), ([(0, 1)], ([0], [1])))


if __name__ == "__main__":
    unittest.main()
