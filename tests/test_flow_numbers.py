"""What a flow tells about those on the board: the end, the numbers to come and the open numbers."""

import itertools
import random
import unittest

from samples import all_settings, bare, full, raised, random_board, random_cases, random_setting, three
from slow_tickets import SlowTickets
from tokenlanes.boards import Board
from tokenlanes.flows import Flow


def crowd(board, start, chance, tokens, returns=0, left=0, steps=12):
    """Return a flow and the slow model, with tokens and returns at places that are drawn.

    Some that entered before them have left, tokens as well as returns.
    """
    flow, slow = Flow(board, start=start), SlowTickets(board, start)
    names = ["enter", "give_back"] * left
    chance.shuffle(names)
    for name in names:
        lane = chance.randrange(board.lane_count)
        ticket = getattr(flow, name)(lane)
        getattr(slow, name)(lane)
        flow.finish(ticket)
        slow.finish(ticket)
    names = ["enter"] * tokens + ["give_back"] * returns
    chance.shuffle(names)
    for name in names:
        lane = chance.randrange(board.lane_count)
        getattr(flow, name)(lane)
        getattr(slow, name)(lane)
    for _ in range(chance.randint(0, steps)):
        waiting = [ticket for ticket, _, gate in flow.inside_now if gate is not None]
        if waiting:
            ticket = chance.choice(waiting)
            flow.advance(ticket)
            slow.advance(ticket)
    return flow, slow


class AtTheEnd(unittest.TestCase):
    def test_the_end_does_not_depend_on_the_order(self):
        for chance, board, start in random_cases(111, 80):
            flow, slow = crowd(board, start, chance, chance.randint(0, 6), chance.randint(0, 6), left=3)
            told, before = flow.amounts_at_end(), flow.inside_now
            with self.subTest(gates=board.gate_list, start=start):
                for _ in range(4):
                    end = slow.at_end(chance)
                    self.assertEqual(end.state["flow"].amounts, told)
                self.assertEqual(flow.inside_now, before)
                while len(flow) > 0:
                    flow.advance(chance.choice(flow.inside_now)[0])
                    self.assertEqual(flow.amounts_at_end(), told)
                self.assertEqual((flow.amounts_now, flow.setting_now), (told, end.state["flow"].setting))

    def test_the_end_depends_only_on_tokens_minus_returns(self):
        for chance, board, start in random_cases(112, 60):
            amounts = [chance.randint(-3, 3) for _ in range(board.lane_count)]
            ends = []
            for extra in range(3):
                flow = Flow(board, start=start)
                names = [(name, lane) for lane, amount in enumerate(amounts) for name in
                         ["enter"] * (max(amount, 0) + extra) + ["give_back"] * (max(-amount, 0) + extra)]
                chance.shuffle(names)
                for name, lane in names:
                    getattr(flow, name)(lane)
                    if chance.random() < 0.5:
                        flow.advance(chance.choice(flow.inside_now)[0])
                told = flow.amounts_at_end()
                flow.finish_all()
                self.assertEqual(flow.amounts_now, told)
                ends.append((flow.amounts_now, flow.setting_now))
            self.assertEqual(ends, [ends[0]] * 3)

    def test_nobody_on_the_board(self):
        for board in [bare, full, Board.full(3), Board(8, [])]:
            flow = Flow(board)
            self.assertEqual((flow.amounts_at_end(), flow.numbers_to_come()), ([0] * board.lane_count, []))
            flow.enter(1)
            flow.finish(0)
            self.assertEqual((flow.amounts_at_end(), flow.numbers_to_come()), (flow.amounts_now, []))


class NumbersToCome(unittest.TestCase):
    def test_they_do_not_depend_on_the_order(self):
        for chance, board, start in random_cases(113, 100):
            flow, slow = crowd(board, start, chance, chance.randint(0, 7), left=chance.randint(0, 4))
            told = flow.numbers_to_come()
            self.assertEqual(len(told), len(flow))
            for _ in range(4):
                given = slow.at_end(chance).state["events"][len(slow.state["events"]):]
                self.assertEqual(told, sorted(number for _, number in given))
            self.assertEqual(sorted(flow.finish_all()), told)

    def test_each_number_that_is_given_is_no_longer_to_come(self):
        for chance, board, start in random_cases(114, 40):
            flow, _ = crowd(board, start, chance, 6)
            told = flow.numbers_to_come()
            while len(flow) > 0:
                number = flow.advance(chance.choice(flow.inside_now)[0])
                if number is not None:
                    told.remove(number)
                self.assertEqual(flow.numbers_to_come(), told)

    def test_numbers_below_0(self):
        flow = Flow(three)
        for lane in [0, 1, 1, 2, 2]:
            flow.give_back(lane)
        flow.finish_all()
        for lane in [2, 2, 2]:
            flow.enter(lane)
        told = flow.numbers_to_come()
        self.assertLess(told[0], 0)
        self.assertEqual(told, sorted(told))
        self.assertEqual(sorted(flow.finish_all()), told)

    def test_returns_on_the_board(self):
        for board in [bare, full, Board.full(3)]:
            flow = Flow(board)
            flow.enter(0)
            self.assertIsNone(raised(flow.numbers_to_come))
            ticket = flow.give_back(0)
            self.assertEqual(raised(flow.numbers_to_come), ("ReturnInside", {}))
            self.assertEqual(flow.amounts_at_end(), [0] * board.lane_count)
            flow.finish(ticket)
            self.assertIsNone(raised(flow.numbers_to_come))
            flow.undo()
            self.assertEqual(raised(flow.numbers_to_come), ("ReturnInside", {}))


class NumbersOpen(unittest.TestCase):
    def compare(self, flow, slow):
        told = slow.open_numbers()
        self.assertEqual({ticket: flow.numbers_open(ticket) for ticket, _, _ in flow.inside_now}, told)

    def test_small_boards_against_all_orders_of_the_steps(self):
        for chance, board, start in random_cases(115, 120, most_gates=7):
            flow, slow = crowd(board, start, chance, chance.randint(1, 3), left=chance.randint(0, 3), steps=5)
            with self.subTest(gates=board.gate_list, start=start, inside=flow.inside_now):
                self.compare(flow, slow)

    def test_few_lanes_against_all_orders_of_the_steps(self):
        chance = random.Random(116)
        for _ in range(60):
            lanes = chance.randint(2, 3)
            gates = [tuple(chance.sample(range(lanes), 2)) for _ in range(chance.randint(1, 7))]
            board = Board(lanes, gates)
            flow, slow = crowd(board, random_setting(chance, board), chance, 3, steps=6)
            with self.subTest(gates=gates, inside=flow.inside_now):
                self.compare(flow, slow)

    def test_all_places_of_entering_and_all_settings(self):
        for board in [three, Board(2, [(0, 1), (1, 0)]), Board(3, [(0, 1), (0, 1), (1, 2)])]:
            for start in all_settings(board):
                for lanes in itertools.combinations_with_replacement(range(board.lane_count), 3):
                    flow, slow = Flow(board, start=start), SlowTickets(board, start)
                    for lane in lanes:
                        flow.enter(lane)
                        slow.enter(lane)
                    self.compare(flow, slow)

    def test_great_boards_against_all_orders_of_the_steps(self):
        chance = random.Random(117)
        boards = [Board.full(3), Board(8, [(lane, (lane + 3) % 8) for lane in range(8)] * 3), full.followed_by(full)]
        for board in boards:
            for tokens, steps in [(2, 6), (3, 12), (3, 3)]:
                flow, slow = crowd(board, random_setting(chance, board), chance, tokens, left=2, steps=steps)
                with self.subTest(gates=board.gate_list, inside=flow.inside_now):
                    self.compare(flow, slow)

    def test_24_gates_on_two_lanes(self):
        # All tokens pass all gates, so each one can be the first, the second and the third everywhere.
        flow = Flow(Board(2, [(0, 1)] * 24))
        for lane in [0, 1, 0]:
            flow.enter(lane)
        for ticket in range(3):
            self.assertEqual(flow.numbers_open(ticket), [0, 1, 2])

    def test_24_gates_against_drawn_orders(self):
        for chance, board, start in random_cases(118, 40):
            flow, slow = crowd(board, start, chance, 3, left=2)
            told = {ticket: flow.numbers_open(ticket) for ticket, _, _ in flow.inside_now}
            for _ in range(25):
                for ticket, number in slow.at_end(chance).state["events"][len(slow.state["events"]):]:
                    self.assertIn(number, told[ticket])

    def test_one_token_has_one_number(self):
        for chance, board, start in random_cases(119, 60):
            flow, _ = crowd(board, start, chance, 1, left=3)
            self.assertEqual(flow.numbers_open(6), flow.numbers_to_come())
            self.assertEqual(flow.numbers_open(6), flow.finish(6))

    def test_together_they_are_the_numbers_to_come(self):
        for chance, board, start in random_cases(120, 80):
            flow, _ = crowd(board, start, chance, chance.randint(1, 3), left=chance.randint(0, 4))
            told = {number for ticket, _, _ in flow.inside_now for number in flow.numbers_open(ticket)}
            self.assertEqual(sorted(told), flow.numbers_to_come())

    def test_places_where_the_way_is_already_chosen(self):
        flow = Flow(Board(2, [(0, 1)]))
        flow.enter(0)
        flow.enter(0)
        self.assertEqual([flow.numbers_open(0), flow.numbers_open(1)], [[0, 1], [0, 1]])
        flow.advance(1)
        self.assertEqual([flow.numbers_open(0), flow.numbers_open(1)], [[1], [0]])
        # On the full board of 2 they can still meet at a later gate.
        flow = Flow(full)
        flow.enter(0)
        flow.enter(0)
        flow.advance(1)
        self.assertEqual([flow.numbers_open(0), flow.numbers_open(1)], [[0, 1], [0, 1]])

    def test_they_wait_for_each_other_before_they_leave(self):
        flow = Flow(bare)
        for _ in range(3):
            flow.enter(1)
        self.assertEqual([flow.numbers_open(ticket) for ticket in range(3)], [[1, 3, 5]] * 3)
        flow.finish(1)
        self.assertEqual([flow.numbers_open(0), flow.numbers_open(2)], [[3, 5], [3, 5]])

    def test_numbers_below_0(self):
        flow = Flow(bare)
        for _ in range(3):
            flow.give_back(0)
        flow.finish_all()
        flow.enter(0)
        flow.enter(0)
        flow.enter(1)
        self.assertEqual([flow.numbers_open(ticket) for ticket in (3, 4, 5)], [[-6, -4], [-6, -4], [1]])

    def test_three_and_four_tokens(self):
        for board in [bare, full, Board.full(3)]:
            flow = Flow(board)
            tickets = [flow.enter(0) for _ in range(3)]
            for ticket in tickets:
                self.assertIsNone(raised(flow.numbers_open, ticket))
            flow.enter(1)
            for ticket in range(4):
                self.assertEqual(raised(flow.numbers_open, ticket), ("TooLarge", {"limit": 3}))
            flow.finish(1)
            self.assertIsNone(raised(flow.numbers_open, 0))
            flow.undo()
            self.assertEqual(raised(flow.numbers_open, 0), ("TooLarge", {"limit": 3}))

    def test_equal_flows_tell_the_same(self):
        for seed in range(20):
            told = []
            for _ in range(2):
                chance = random.Random(seed)
                board = random_board(chance)
                flow, _ = crowd(board, random_setting(chance, board), chance, 3)
                told.append([flow.numbers_open(ticket) for ticket in range(3)] + [flow.numbers_to_come()])
            self.assertEqual(told[0], told[1])


if __name__ == "__main__":
    unittest.main()
