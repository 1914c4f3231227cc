import inspect
import itertools
import random
import unittest

from samples import FULL_TWO, HUGE, all_settings, bare, full, random_cases, three, widest
from slow_model import send_in_turn, send_mixed
from slow_search import halves_are_whole, settings_from, small_amounts
from tokenlanes.boards import Board
from tokenlanes.passing import amounts_after, exit_of, numbers_of, run_tokens, walk_exits

# The table of point 11: the lane, the lanes behind the gates it passes, the setting afterwards.
TABLE = [
    (0, {0: 0, 2: 0, 4: 0}, [1, 0, 1, 0, 1, 0]),
    (0, {0: 1, 3: 1, 4: 1}, [0, 0, 1, 1, 0, 0]),
    (0, {0: 0, 2: 3, 5: 2}, [1, 0, 0, 1, 0, 1]),
    (3, {1: 2, 3: 2, 5: 3}, [1, 1, 0, 0, 0, 0]),
]


def drawn_entries(chance, board, most=40):
    return [chance.randrange(board.lane_count) for _ in range(chance.randint(0, most))]


class Table(unittest.TestCase):
    def test_settings_and_exits(self):
        setting = None
        for number, (lane, ways, after) in enumerate(TABLE):
            with self.subTest(number=number):
                exits, setting = run_tokens(full, [lane], start=setting)
                self.assertEqual((exits, setting), ([number], after))
                self.assertEqual(list(ways.values())[-1], number)

    def test_lanes_behind_each_gate(self):
        setting = [0] * 6
        for number, (lane, ways, after) in enumerate(TABLE):
            for gates in range(7):
                with self.subTest(number=number, gates=gates):
                    expected = [lane] + [way for gate, way in ways.items() if gate < gates]
                    part = Board(4, FULL_TWO[:gates])
                    self.assertEqual(run_tokens(part, [lane], start=setting[:gates])[0], expected[-1:])
            setting = after

    def test_gates_passed_are_those_whose_pointers_change(self):
        before = [0] * 6
        for number, (_, ways, after) in enumerate(TABLE):
            with self.subTest(number=number):
                self.assertEqual([gate for gate in range(6) if before[gate] != after[gate]], list(ways))
            before = after


class RunTokens(unittest.TestCase):
    def test_one_gate(self):
        for gate, first, second in [((0, 1), 0, 1), ((1, 0), 1, 0)]:
            board = Board(2, [gate])
            self.assertEqual(run_tokens(board, [0, 0, 0]), ([first, second, first], [1]))
            self.assertEqual(run_tokens(board, [1, 0]), ([first, second], [0]))
            self.assertEqual(run_tokens(board, [0], start=[1]), ([second], [0]))

    def test_gates_beside_the_way_are_not_passed(self):
        board = Board(5, [(0, 1), (2, 3), (1, 4)])
        self.assertEqual(run_tokens(board, [3]), ([2], [0, 1, 0]))
        self.assertEqual(run_tokens(board, [4, 4]), ([1, 4], [0, 0, 0]))
        self.assertEqual(run_tokens(board, [0, 0]), ([0, 1], [0, 0, 1]))

    def test_the_order_of_the_gates_counts(self):
        self.assertEqual(run_tokens(Board(3, [(0, 1), (1, 2)]), [0, 0]), ([0, 1], [0, 1]))
        self.assertEqual(run_tokens(Board(3, [(1, 2), (0, 1)]), [0, 0]), ([0, 1], [0, 0]))

    def test_boards_without_gates(self):
        self.assertEqual(run_tokens(bare, [1, 0, 1, 1]), ([1, 0, 1, 1], []))
        self.assertEqual(run_tokens(Board(8, []), [7, 0], start=[]), ([7, 0], []))

    def test_no_entries(self):
        self.assertEqual(run_tokens(full, []), ([], [0] * 6))
        self.assertEqual(run_tokens(full, [], start=[0, 1, 1, 0, 0, 1]), ([], [0, 1, 1, 0, 0, 1]))
        self.assertEqual(run_tokens(bare, [], start=None), ([], []))

    def test_without_a_start_all_pointers_are_0(self):
        for _, board, _ in random_cases(6, 30):
            entries = [0, 1, 1, 0, 1] * 4
            zeros = run_tokens(board, entries, start=[0] * len(board))
            self.assertEqual(run_tokens(board, entries), zeros)
            self.assertEqual(run_tokens(board, entries, start=None), zeros)

    def test_against_the_slow_model(self):
        for chance, board, start in random_cases(7, 200):
            entries = drawn_entries(chance, board)
            with self.subTest(gates=board.gate_list, start=start, entries=entries):
                flow = send_in_turn(board, entries, start)
                self.assertEqual(run_tokens(board, entries, start=start), (flow.exits, flow.setting))

    def test_one_call_or_several(self):
        for chance, board, start in random_cases(8, 40):
            entries = drawn_entries(chance, board)
            middle = len(entries) // 2
            first, between = run_tokens(board, entries[:middle], start=start)
            second, last = run_tokens(board, entries[middle:], start=between)
            self.assertEqual(run_tokens(board, entries, start=start), (first + second, last))

    def test_400_entries_and_somewhat_more(self):
        for many in [400, 450]:
            entries = [place * place % 8 for place in range(many)]
            flow = send_in_turn(widest, entries, [0] * 24)
            self.assertEqual(run_tokens(widest, entries), (flow.exits, flow.setting))

    def test_the_kinds_of_the_result(self):
        result = run_tokens(full, [0])
        self.assertEqual([type(part) for part in (result, *result)], [tuple, list, list])


class Numbers(unittest.TestCase):
    def test_plain_boards(self):
        self.assertEqual(numbers_of(bare, [0, 0, 1, 0, 1]), [0, 2, 1, 4, 3])
        self.assertEqual(numbers_of(Board(8, []), [7, 7, 0, 7]), [7, 15, 0, 23])
        self.assertEqual(numbers_of(Board(3, []), [2, 2, 1, 0, 0]), [2, 5, 1, 0, 3])
        self.assertEqual(numbers_of(Board(2, [(0, 1)]), [0, 0, 1], start=[1]), [1, 0, 3])
        self.assertEqual(numbers_of(full, []), [])

    def test_against_the_slow_model(self):
        for chance, board, start in random_cases(9, 200):
            entries = drawn_entries(chance, board)
            with self.subTest(gates=board.gate_list, start=start, entries=entries):
                self.assertEqual(numbers_of(board, entries, start=start), send_in_turn(board, entries, start).given)

    def test_without_a_start_all_pointers_are_0(self):
        for chance, board, _ in random_cases(10, 30):
            entries = drawn_entries(chance, board)
            self.assertEqual(numbers_of(board, entries), numbers_of(board, entries, start=[0] * len(board)))

    def test_400_entries(self):
        self.assertEqual(numbers_of(bare, [1] * 400), list(range(1, 801, 2)))
        self.assertIs(type(numbers_of(bare, [1])), list)


class AmountsAfter(unittest.TestCase):
    def test_halves_at_one_gate(self):
        told = [
            (0, 0, 0, 0, 0), (1, 0, 1, 0, 1), (2, 0, 1, 1, 0), (3, 0, 2, 1, 1), (-1, 0, 0, -1, 1), (-2, 0, -1, -1, 0),
            (-3, 0, -1, -2, 1), (0, 1, 0, 0, 1), (1, 1, 0, 1, 0), (2, 1, 1, 1, 1), (3, 1, 1, 2, 0), (-1, 1, -1, 0, 0),
            (-2, 1, -1, -1, 1), (-3, 1, -2, -1, 0),
        ]
        for many, pointer, first, second, after in told:
            for other in [0, 5, -7]:
                with self.subTest(many=many, pointer=pointer, other=other):
                    amounts = [other, many - other]
                    found = amounts_after(Board(2, [(0, 1)]), amounts, start=[pointer])
                    self.assertEqual(found, ([first, second], [after]))
                    found = amounts_after(Board(2, [(1, 0)]), amounts, start=[pointer])
                    self.assertEqual(found, ([second, first], [after]))

    def test_lanes_without_gates_keep_their_amounts(self):
        self.assertEqual(amounts_after(bare, [5, -HUGE]), ([5, -HUGE], []))
        self.assertEqual(amounts_after(Board(4, [(1, 3)]), [9, 1, -8, 0]), ([9, 1, -8, 0], [1]))

    def test_great_amounts(self):
        board = Board(2, [(0, 1)])
        self.assertEqual(amounts_after(board, [HUGE, HUGE]), ([HUGE, HUGE], [0]))
        self.assertEqual(amounts_after(board, [-HUGE, -HUGE], start=[1]), ([-HUGE, -HUGE], [1]))
        self.assertEqual(amounts_after(board, [HUGE, -HUGE]), ([0, 0], [0]))
        self.assertEqual(amounts_after(board, [HUGE, 1 - HUGE]), ([1, 0], [1]))
        self.assertEqual(amounts_after(board, [HUGE - 1, 0]), ([HUGE // 2, HUGE // 2 - 1], [1]))
        self.assertEqual(amounts_after(board, [1 - HUGE, 0]), ([1 - HUGE // 2, -HUGE // 2], [1]))
        self.assertEqual(amounts_after(board, [1 - HUGE, 0], start=[1]), ([-HUGE // 2, 1 - HUGE // 2], [0]))
        self.assertEqual(amounts_after(Board(8, []), [HUGE, -HUGE] * 4), ([HUGE, -HUGE] * 4, []))

    def test_tokens_and_returns_in_any_order(self):
        for chance, board, start in random_cases(11, 150, most_gates=12):
            amounts = [chance.randint(-5, 5) for _ in range(board.lane_count)]
            with self.subTest(gates=board.gate_list, start=start, amounts=amounts):
                flow = send_mixed(board, amounts, start, chance, extra=chance.randint(0, 2))
                self.assertEqual(amounts_after(board, amounts, start=start), (flow.amounts, flow.setting))

    def test_it_agrees_with_tokens_one_after_the_other(self):
        for chance, board, start in random_cases(12, 60):
            entries = drawn_entries(chance, board)
            lanes = range(board.lane_count)
            exits, setting = run_tokens(board, entries, start=start)
            found = amounts_after(board, [entries.count(lane) for lane in lanes], start=start)
            self.assertEqual(found, ([exits.count(lane) for lane in lanes], setting))
            chance.shuffle(entries)
            self.assertEqual(run_tokens(board, entries, start=start)[1], setting)

    def test_without_a_start_all_pointers_are_0(self):
        for chance, board, _ in random_cases(13, 30):
            amounts = [chance.randint(-HUGE, HUGE) for _ in range(board.lane_count)]
            zeros = amounts_after(board, amounts, start=[0] * len(board))
            self.assertEqual(amounts_after(board, amounts), zeros)
            self.assertEqual(amounts_after(board, amounts, start=None), zeros)

    def test_the_kinds_of_the_result(self):
        result = amounts_after(full, [0, 1, 2, 3])
        self.assertEqual([type(part) for part in (result, *result)], [tuple, list, list])


class BackAndTogether(unittest.TestCase):
    """Point 12, as far as `amounts_after` shows it."""

    def test_amounts_lead_back(self):
        for chance, board, start in random_cases(14, 60):
            amounts = [chance.randint(-HUGE, HUGE) for _ in range(board.lane_count)]
            leaving, setting = amounts_after(board, amounts, start=start)
            back = amounts_after(board, [-amount for amount in amounts], start=setting)
            self.assertEqual(back, ([-amount for amount in leaving], start))

    def test_amounts_add_up(self):
        for chance, board, start in random_cases(15, 60):
            first = [chance.randint(-HUGE // 2, HUGE // 2) for _ in range(board.lane_count)]
            second = [chance.randint(-HUGE // 2, HUGE // 2) for _ in range(board.lane_count)]
            one, between = amounts_after(board, first, start=start)
            two, last = amounts_after(board, second, start=between)
            both = amounts_after(board, plus(first, second), start=start)
            self.assertEqual(both, (plus(one, two), last))

    def test_what_changes_no_pointer_does_so_from_each_setting(self):
        for _, board, _ in random_cases(16, 25, most_gates=5):
            for amounts in small_amounts(board, [-1, 0, 2]):
                stays = [amounts_after(board, amounts, start=start)[1] == start for start in all_settings(board)]
                self.assertEqual(stays, [halves_are_whole(board, amounts)] * len(stays))

    def test_same_effect_if_the_difference_changes_nothing(self):
        for chance, board, start in random_cases(17, 200, most_gates=4):
            first, second = [chance.choice(small_amounts(board, [-1, 0, 2])) for _ in range(2)]
            difference = plus(first, [-amount for amount in second])
            same = amounts_after(board, first, start=start)[1] == amounts_after(board, second, start=start)[1]
            self.assertEqual(same, halves_are_whole(board, difference))

    def test_equally_many_settings_can_be_reached_from_each_one(self):
        for _, board, _ in random_cases(18, 25, most_gates=5):
            sizes = [len(settings_from(board, start)) for start in all_settings(board)]
            self.assertEqual(sizes, [sizes[0]] * len(sizes))
        self.assertEqual(len(settings_from(full, [0] * 6)), 8)


def plus(first, second):
    return [one + two for one, two in zip(first, second)]


class ExitOf(unittest.TestCase):
    def test_it_agrees_with_the_tokens_themselves(self):
        for chance, board, start in random_cases(19, 60):
            lane = chance.randrange(board.lane_count)
            exits = send_in_turn(board, [lane] * 40, start).exits
            found = [exit_of(board, lane, number, start=start) for number in range(40)]
            self.assertEqual(found, exits)

    def test_without_a_start_all_pointers_are_0(self):
        for chance, board, _ in random_cases(20, 30):
            lane = chance.randrange(board.lane_count)
            number = chance.randint(0, HUGE)
            zeros = exit_of(board, lane, number, start=[0] * len(board))
            self.assertEqual(exit_of(board, lane, number), zeros)
            self.assertEqual(exit_of(board, lane, number, start=None), zeros)

    def test_great_numbers(self):
        self.assertEqual([exit_of(full, lane, HUGE - 1) for lane in range(4)], [3, 3, 3, 3])
        self.assertEqual([exit_of(full, lane, HUGE) for lane in range(4)], [0, 0, 0, 0])
        self.assertEqual(exit_of(Board.full(3), 5, HUGE), 0)
        self.assertEqual(exit_of(Board.full(3), 5, HUGE - 3), 5)
        self.assertEqual(exit_of(three, 0, HUGE), exit_of(three, 0, 0))
        self.assertEqual([exit_of(bare, 1, HUGE), exit_of(bare, 0, HUGE)], [1, 0])
        self.assertEqual([exit_of(Board(2, [(0, 1)]), 0, HUGE, start=[pointer]) for pointer in [0, 1]], [0, 1])
        self.assertEqual([exit_of(Board(2, [(1, 0)]), 0, HUGE - 1, start=[pointer]) for pointer in [0, 1]], [0, 1])

    def test_great_numbers_are_those_after_the_tokens_before(self):
        for chance, board, start in random_cases(21, 60):
            lane, number = chance.randrange(board.lane_count), chance.randint(0, HUGE)
            before = [0] * board.lane_count
            before[lane] = number
            after = amounts_after(board, before, start=start)[1]
            self.assertEqual(exit_of(board, lane, number, start=start), run_tokens(board, [lane], start=after)[0][0])


class WalkExits(unittest.TestCase):
    def test_it_is_a_generator(self):
        self.assertTrue(inspect.isgenerator(walk_exits(full, 0)))

    def test_it_goes_on_as_the_tokens_do(self):
        for chance, board, start in random_cases(22, 60):
            lane = chance.randrange(board.lane_count)
            walked = list(itertools.islice(walk_exits(board, lane, start=start), 50))
            self.assertEqual(walked, send_in_turn(board, [lane] * 50, start).exits)

    def test_without_a_start_all_pointers_are_0(self):
        for _, board, _ in random_cases(23, 30):
            zeros = list(itertools.islice(walk_exits(board, 1, start=[0] * len(board)), 30))
            self.assertEqual(list(itertools.islice(walk_exits(board, 1), 30)), zeros)
            self.assertEqual(list(itertools.islice(walk_exits(board, 1, start=None), 30)), zeros)

    def test_it_does_not_end(self):
        walk = walk_exits(three, 0)
        walked = list(itertools.islice(walk, 20000))
        self.assertEqual(walked, [exit_of(three, 0, number) for number in range(8)] * 2500)
        self.assertEqual(next(walk), walked[0])
        self.assertEqual(list(itertools.islice(walk_exits(bare, 1), 1000)), [1] * 1000)

    def test_two_walks_do_not_disturb_each_other(self):
        start = [0, 0, 1, 1, 0, 0]
        first, second = walk_exits(full, 0, start=start), walk_exits(full, 0, start=start)
        expected = run_tokens(full, [0] * 12, start=start)[0]
        both = [(next(first), next(second)) for _ in range(12)]
        self.assertEqual(both, list(zip(expected, expected)))


class Chance(unittest.TestCase):
    def test_equal_arguments_give_equal_results(self):
        chance = random.Random(24)
        entries = drawn_entries(chance, full)
        for call, values in [(run_tokens, [entries]), (numbers_of, [entries]), (amounts_after, [[3, -1, 0, HUGE]])]:
            results = [call(Board.full(2), *values, start=[0, 1, 0, 1, 1, 1]) for _ in range(3)]
            self.assertEqual(results, [results[0]] * 3)


if __name__ == "__main__":
    unittest.main()
