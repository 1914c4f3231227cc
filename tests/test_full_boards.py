"""Points 15 to 17: the full boards count, also if tokens and returns overtake each other."""

import random
import unittest

from samples import full, raised, three
from slow_model import SlowFlow, standing
from tokenlanes.boards import Board
from tokenlanes.passing import amounts_after, exit_of, numbers_of, run_tokens

FULL_BOARDS = [Board.full(1), Board.full(2), Board.full(3)]


class Counting(unittest.TestCase):
    def test_each_token_gets_the_next_number(self):
        chance = random.Random(1)
        for board in FULL_BOARDS:
            for _ in range(20):
                entries = [chance.randrange(board.lane_count) for _ in range(400)]
                exits = [index % board.lane_count for index in range(400)]
                self.assertEqual(run_tokens(board, entries)[0], exits)
                self.assertEqual(numbers_of(board, entries), list(range(400)))

    def test_all_tokens_that_can_follow(self):
        for board in FULL_BOARDS[:2]:
            states = [(0, [0] * len(board))]
            for index, setting in states:
                for lane in range(board.lane_count):
                    exits, after = run_tokens(board, [lane], start=setting)
                    self.assertEqual(exits, [index])
                    state = ((index + 1) % board.lane_count, after)
                    if state not in states:
                        states.append(state)

    def test_all_tokens_on_one_lane(self):
        for board in FULL_BOARDS:
            for lane in range(board.lane_count):
                self.assertEqual(numbers_of(board, [lane] * 50), list(range(50)))
                for number in [0, 1, 2, 7, 10 ** 30 - 1, 10 ** 30]:
                    self.assertEqual(exit_of(board, lane, number), number % board.lane_count)

    def test_another_board_does_not_count(self):
        self.assertEqual(numbers_of(three, [2, 2, 2]), [0, 2, 1])
        self.assertEqual(run_tokens(full, [0, 0, 0], start=[0, 0, 0, 0, 0, 1])[0], [0, 1, 3])

    def test_great_amounts_are_spread_evenly(self):
        chance = random.Random(2)
        for board in FULL_BOARDS:
            lanes = board.lane_count
            for _ in range(30):
                amounts = [chance.randint(-10 ** 29, 10 ** 30) for _ in range(lanes)]
                amounts[0] = 10 ** 30
                many = sum(amounts)
                expected = [(many - lane + lanes - 1) // lanes for lane in range(lanes)]
                if many >= 0:
                    self.assertEqual(amounts_after(board, amounts)[0], expected)


class Overtaking(unittest.TestCase):
    def test_the_numbers_are_exactly_those_below_the_amount(self):
        chance = random.Random(3)
        for board in FULL_BOARDS:
            for _ in range(60):
                flow = SlowFlow(board.lane_count, board.gate_list, [0] * len(board))
                tokens = chance.randint(0, 30)
                crowd = [False] * tokens + [True] * chance.randint(0, tokens)
                more = tokens - crowd.count(True)
                self.send(flow, crowd, chance)
                self.assertEqual(standing(flow), [(number, 1) for number in range(more)])

    def test_whenever_nobody_is_inside(self):
        chance = random.Random(4)
        flow = SlowFlow(8, Board.full(3).gate_list, [0] * 24)
        more = 0
        for _ in range(100):
            tokens = chance.randint(0, 4)
            returns = chance.randint(0, min(4, more + tokens))
            self.send(flow, [False] * tokens + [True] * returns, chance)
            more += tokens - returns
            self.assertEqual(standing(flow), [(number, 1) for number in range(more)])

    def send(self, flow, crowd, chance):
        chance.shuffle(crowd)
        for is_return in crowd:
            flow.enter(chance.randrange(flow.lanes), is_return)
            if chance.random() < 0.5:
                flow.step(chance.randrange(len(flow.inside)))
        flow.finish_mixed(chance)


class LanesOfFullBoards(unittest.TestCase):
    def test_there_are_2_and_4_and_8_lanes(self):
        self.assertEqual([board.lane_count for board in FULL_BOARDS], [2, 4, 8])
        self.assertEqual([len(board) for board in FULL_BOARDS], [1, 6, 24])
        self.assertEqual(raised(Board.full, 4), ("InvalidPower", {}))


if __name__ == "__main__":
    unittest.main()
