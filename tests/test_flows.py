"""Flows: tickets, steps, undo, what is inside and what has left, against the slow model."""

import random
import unittest

from flow_tools import after_calls, do, slow_standing, standing
from samples import all_settings, bare, full, raised, random_board, random_cases, random_setting, three
from slow_tickets import SlowTickets
from tokenlanes.boards import Board
from tokenlanes.flows import Flow

EDGES = [
    bare, Board(8, []), Board(2, [(0, 1)]), Board(2, [(1, 0)] * 24), Board.full(3), Board(8, [(0, 7)] * 24),
    Board(8, [(6, 7)] * 3), three, full,
]


def drawn_call(chance, board, slow, weights):
    """Return the name and the arguments of a method, mostly ones that change something."""
    tickets, entered = slow.state["tickets"], slow.state["entered"]
    name = chance.choices(["enter", "give_back", "advance", "finish", "finish_all", "undo"], weights)[0]
    if name in ("enter", "give_back"):
        return name, [chance.randrange(board.lane_count)]
    if name == "advance":
        return name, [chance.choice(tickets) if tickets and chance.random() < 0.95 else chance.randint(-1, entered + 1)]
    if name == "finish":
        chosen = chance.sample(tickets, chance.randint(0, min(3, len(tickets))))
        if chance.random() < 0.1:
            chosen.insert(chance.randint(0, len(chosen)), chance.randint(-1, entered + 1))
        return name, chosen
    return name, []


# Changes of each kind, one behind the other.
CHANGES = [
    ("enter", [0]), ("give_back", [1]), ("advance", [0]), ("enter", [1]), ("finish", [0]), ("enter", [0]),
    ("advance", [1]), ("finish", [2, 1]), ("enter", [1]), ("give_back", [0]), ("finish_all", []),
]
# How often each method is drawn: enter, give_back, advance, finish, finish_all, undo.
MIXED = [4, 2, 12, 2, 0.3, 2]
TOKENS = [4, 0, 12, 2, 0.3, 2]
UNDOING = [4, 2, 6, 2, 1, 14]


class AgainstTheSlowModel(unittest.TestCase):
    def compare(self, board, start, chance, many, weights):
        flow, slow = Flow(board, start=start), SlowTickets(board, start)
        self.assertEqual(standing(flow), slow_standing(slow))
        for _ in range(many):
            name, values = drawn_call(chance, board, slow, weights)
            self.assertEqual(do(flow, name, values), getattr(slow, name)(*values), (name, values))
            self.assertEqual(standing(flow), slow_standing(slow), (name, values))

    def test_random_boards(self):
        for chance, board, start in random_cases(101, 60):
            with self.subTest(gates=board.gate_list, start=start):
                self.compare(board, start, chance, 30, chance.choice([MIXED, TOKENS, UNDOING]))

    def test_small_boards_from_all_settings(self):
        chance = random.Random(102)
        for board in [three, Board(2, [(0, 1), (1, 0), (0, 1)]), Board(4, [(0, 1), (2, 3), (1, 2)])]:
            for start in all_settings(board):
                with self.subTest(gates=board.gate_list, start=start):
                    self.compare(board, start, chance, 30, MIXED)

    def test_the_edges_of_boards(self):
        chance = random.Random(103)
        for board in EDGES:
            for weights in [MIXED, TOKENS, UNDOING]:
                with self.subTest(gates=board.gate_list, lanes=board.lane_count):
                    self.compare(board, random_setting(chance, board), chance, 40, weights)


class Tickets(unittest.TestCase):
    def test_they_are_given_in_the_order_of_entering(self):
        flow = Flow(full)
        told = [flow.enter(0), flow.give_back(0), flow.enter(3), flow.advance(1), flow.enter(2), flow.give_back(1)]
        self.assertEqual(told, [0, 1, 2, None, 3, 4])

    def test_they_are_not_used_again_when_one_has_left(self):
        flow = Flow(bare)
        told = [flow.enter(0), flow.advance(0), flow.enter(0), flow.finish(1), flow.enter(0), flow.finish_all()]
        self.assertEqual(told + [flow.enter(1)], [0, 0, 1, [2], 2, [4], 3])

    def test_they_are_used_again_when_the_entering_is_reverted(self):
        for board in EDGES:
            flow = Flow(board)
            self.assertEqual([flow.enter(0), flow.enter(1)], [0, 1])
            flow.undo()
            self.assertEqual([flow.give_back(1), flow.inside_now[1][:2], flow.enter(0)], [1, (1, 1), 2])
            flow.undo()
            flow.undo()
            flow.undo()
            self.assertEqual([flow.inside_now, flow.give_back(0), flow.enter(1)], [[], 0, 1])

    def test_a_reverted_one_is_no_ticket(self):
        flow = Flow(full)
        flow.enter(0)
        flow.enter(1)
        flow.undo()
        for call, values in [(flow.advance, [1]), (flow.finish, [0, 1]), (flow.numbers_open, [1])]:
            self.assertEqual(raised(call, *values), ("InvalidTicket", {}))
        self.assertEqual(flow.inside_now, [(0, 0, 0)])

    def test_one_that_has_left_is_no_ticket_until_that_is_reverted(self):
        for board in EDGES:
            flow = Flow(board)
            flow.enter(1)
            numbers = flow.finish(0)
            for call in [flow.advance, flow.finish, flow.numbers_open]:
                self.assertEqual(raised(call, 0), ("InvalidTicket", {}))
            flow.undo()
            self.assertEqual(flow.finish(0), numbers)


class Steps(unittest.TestCase):
    def test_the_table_of_the_document(self):
        told = [
            (0, [(0, 0), (0, 2), (0, 4), (0, None)], [1, 0, 1, 0, 1, 0]),
            (0, [(0, 0), (1, 3), (1, 4), (1, None)], [0, 0, 1, 1, 0, 0]),
            (0, [(0, 0), (0, 2), (3, 5), (2, None)], [1, 0, 0, 1, 0, 1]),
            (3, [(3, 1), (2, 3), (2, 5), (3, None)], [1, 1, 0, 0, 0, 0]),
        ]
        flow = Flow(full)
        for number, (lane, places, setting) in enumerate(told):
            ticket = flow.enter(lane)
            self.assertEqual(ticket, number)
            for place in places:
                self.assertEqual(flow.inside_now, [(ticket, *place)])
                found = flow.advance(ticket)
            self.assertEqual((found, flow.setting_now, flow.inside_now), (number, setting, []))

    def test_a_return_goes_the_way_of_the_last_token_back(self):
        flow = Flow(full, start=[1, 1, 0, 0, 0, 0])
        flow.give_back(3)
        places = []
        while len(flow) > 0:
            places.append(flow.inside_now[0])
            number = flow.advance(0)
        self.assertEqual(places, [(0, 3, 1), (0, 2, 3), (0, 2, 5), (0, 3, None)])
        self.assertEqual((number, flow.setting_now, flow.amounts_now), (-1, [1, 0, 0, 1, 0, 1], [0, 0, 0, -1]))

    def test_without_gates_one_leaves_with_its_first_step(self):
        for lanes in (2, 8):
            flow = Flow(Board(lanes, []))
            for lane in range(lanes):
                self.assertEqual([flow.enter(lane), flow.inside_now], [lane, [(lane, lane, None)]])
                self.assertEqual(flow.advance(lane), lane)

    def test_a_lane_without_gates(self):
        flow = Flow(Board(3, [(0, 1)] * 24))
        flow.enter(2)
        flow.enter(1)
        self.assertEqual(flow.inside_now, [(0, 2, None), (1, 1, 0)])
        self.assertEqual([flow.advance(0), flow.advance(1), flow.inside_now], [2, None, [(1, 0, 1)]])

    def test_24_gates_are_24_steps_and_one(self):
        flow = Flow(Board(2, [(0, 1)] * 24))
        flow.enter(0)
        self.assertEqual([flow.advance(0) for _ in range(24)], [None] * 24)
        self.assertEqual(flow.inside_now, [(0, 0, None)])
        self.assertEqual([flow.setting_now, flow.advance(0), flow.amounts_now], [[1] * 24, 0, [1, 0]])

    def test_they_overtake_each_other(self):
        flow = Flow(Board(2, [(0, 1), (0, 1)]))
        flow.enter(0)
        flow.enter(0)
        self.assertEqual([flow.advance(0), flow.advance(1), flow.advance(1), flow.inside_now],
                         [None, None, None, [(0, 0, 1), (1, 0, None)]])
        self.assertEqual([flow.advance(0), flow.advance(0), flow.advance(1)], [None, 1, 0])
        self.assertEqual(list(flow.events()), [(0, 1), (1, 0)])

    def test_numbers_below_0(self):
        flow = Flow(bare)
        for _ in range(3):
            flow.give_back(1)
        flow.enter(1)
        self.assertEqual(flow.finish(0, 1, 3, 2), [-1, -3, -3, -3])
        self.assertEqual(flow.amounts_now, [0, -2])

    def test_a_flow_begins_at_a_setting(self):
        board = Board(2, [(0, 1), (1, 0)])
        for start in all_settings(board):
            flow = Flow(board, start=start)
            self.assertEqual((flow.setting_now, flow.amounts_now, flow.inside_now, len(flow)), (start, [0, 0], [], 0))
            flow.enter(1)
            flow.advance(0)
            self.assertEqual(flow.inside_now, [(0, start[0], 1)])
        for flow in [Flow(board), Flow(board, start=None)]:
            self.assertEqual(flow.setting_now, [0, 0])


class Finishing(unittest.TestCase):
    def crowd(self):
        flow = Flow(full)
        for lane in [0, 0, 3, 2]:
            flow.enter(lane)
        flow.give_back(1)
        flow.advance(2)
        return flow

    def test_in_the_order_of_the_arguments(self):
        for order in [(0, 1, 2), (2, 1, 0), (4, 0, 3), (1,), (3, 4)]:
            flow, other = self.crowd(), self.crowd()
            told = [other.finish(ticket)[0] for ticket in order]
            self.assertEqual(flow.finish(*order), told)
            self.assertEqual([ticket for ticket, _ in flow.events()], list(order))
            self.assertEqual(standing(flow), standing(other))

    def test_each_goes_on_alone_until_it_has_left(self):
        flow = Flow(Board(2, [(0, 1), (0, 1)]))
        flow.enter(0)
        flow.enter(0)
        flow.advance(0)
        self.assertEqual([flow.finish(1, 0), list(flow.events())], [[0, 1], [(1, 0), (0, 1)]])

    def test_without_tickets_nothing_changes(self):
        for flow in [Flow(full), self.crowd()]:
            before = standing(flow)
            self.assertEqual((flow.finish(), standing(flow)), ([], before))
        flow.finish()
        flow.undo()
        self.assertEqual(flow.inside_now[2], (2, 3, 1))
        flow = Flow(full)
        self.assertEqual([flow.finish(), flow.finish_all()], [[], []])
        self.assertEqual(raised(flow.undo), ("NothingToUndo", {}))

    def test_all(self):
        flow, other = self.crowd(), self.crowd()
        self.assertEqual(flow.finish_all(), other.finish(0, 1, 2, 3, 4))
        self.assertEqual(standing(flow), standing(other))
        self.assertEqual((flow.finish_all(), flow.inside_now, len(flow)), ([], [], 0))
        flow.undo()
        self.assertEqual(standing(flow), standing(self.crowd()))

    def test_all_when_some_have_left(self):
        flow, other = self.crowd(), self.crowd()
        self.assertEqual(flow.finish(3, 0), other.finish(3, 0))
        self.assertEqual(flow.finish_all(), other.finish(1, 2, 4))
        self.assertEqual([ticket for ticket, _ in flow.events()], [3, 0, 1, 2, 4])

    def test_wrong_tickets_behind_valid_ones_move_nobody(self):
        for wrong in [5, -1, True, None, [0], 0, 1]:
            flow = self.crowd()
            before = standing(flow)
            self.assertEqual(raised(flow.finish, 0, 1, wrong), ("InvalidTicket", {}))
            self.assertEqual(standing(flow), before)
            flow.undo()
            self.assertEqual(flow.inside_now[2], (2, 3, 1))

    def test_the_same_ticket_twice(self):
        flow = self.crowd()
        before = standing(flow)
        for tickets in [(0, 0), (1, 0, 1), (4, 4, 4), (0, 1, 2, 3, 4, 0)]:
            self.assertEqual(raised(flow.finish, *tickets), ("InvalidTicket", {}))
            self.assertEqual(standing(flow), before)

    def test_twelve_tickets(self):
        flow = Flow(full)
        tickets = [flow.enter(0) for _ in range(12)]
        self.assertEqual(sorted(flow.finish(*reversed(tickets))), list(range(12)))
        self.assertEqual([ticket for ticket, _ in flow.events()], tickets[::-1])


class Undo(unittest.TestCase):
    def test_down_to_the_first_state_and_once_more(self):
        chance = random.Random(104)
        for board in [full, three, Board.full(3), Board(2, [(0, 1)] * 24), random_board(chance)]:
            flow = Flow(board)
            states = []
            for name, values in CHANGES:
                states.append(standing(flow))
                getattr(flow, name)(*values)
            for state in reversed(states):
                self.assertIsNone(flow.undo())
                self.assertEqual(standing(flow), state)
            for _ in range(2):
                self.assertEqual(raised(flow.undo), ("NothingToUndo", {}))
                self.assertEqual(standing(flow), states[0])
            self.assertEqual(flow.enter(0), 0)

    def test_behind_each_kind_of_change(self):
        for many in range(1, len(CHANGES) + 1):
            flow = after_calls(Flow(full), CHANGES[:many])
            other = after_calls(Flow(full), CHANGES[:many - 1])
            flow.undo()
            self.assertEqual(standing(flow), standing(other))
            # What was reverted can be done again, and has the same outcome.
            name, values = CHANGES[many - 1]
            self.assertEqual(do(flow, name, values), do(other, name, values))
            self.assertEqual(standing(flow), standing(other))

    def test_of_a_new_flow(self):
        for board in EDGES:
            flow = Flow(board, start=[1] * len(board))
            self.assertEqual(raised(flow.undo), ("NothingToUndo", {}))
            self.assertEqual(flow.setting_now, [1] * len(board))

    def test_what_only_tells_is_no_change(self):
        flow = Flow(full)
        flow.enter(0)
        for _ in range(3):
            standing(flow)
            flow.numbers_open(0)
            flow.twin().finish_all()
            raised(flow.advance, 1)
            raised(flow.enter, 4)
            raised(flow.finish, 0, 0)
            flow.finish()
        flow.undo()
        self.assertEqual(standing(flow), standing(Flow(full)))
        self.assertEqual(raised(flow.undo), ("NothingToUndo", {}))

    def test_reverted_changes_are_not_reverted_again(self):
        flow = Flow(full)
        flow.enter(0)
        flow.enter(1)
        flow.undo()
        flow.enter(2)
        flow.undo()
        self.assertEqual(flow.inside_now, [(0, 0, 0)])
        flow.undo()
        self.assertEqual(raised(flow.undo), ("NothingToUndo", {}))

    def test_the_leaving_is_not_an_event_any_more(self):
        flow = Flow(bare)
        for lane in [0, 1, 1]:
            flow.enter(lane)
        flow.finish(2)
        flow.finish(0, 1)
        self.assertEqual(list(flow.events()), [(2, 1), (0, 0), (1, 3)])
        flow.undo()
        self.assertEqual(list(flow.events()), [(2, 1)])
        flow.advance(1)
        self.assertEqual(list(flow.events()), [(2, 1), (1, 3)])
        flow.undo()
        flow.undo()
        self.assertEqual(list(flow.events()), [])


if __name__ == "__main__":
    unittest.main()
