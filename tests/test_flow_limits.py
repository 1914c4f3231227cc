"""Flows at the limits of point 4: 300 calls that change one, 60 of them enter and give_back, 24 gates."""

import random
import unittest

from flow_tools import do, slow_standing, standing
from samples import random_setting, widest
from slow_model import send_in_turn
from slow_tickets import SlowTickets
from tokenlanes.boards import Board
from tokenlanes.flows import Flow
from tokenlanes.passing import amounts_after

BOARDS = [Board.full(3), widest, Board(2, [(0, 1), (1, 0)] * 12), Board(3, [(0, 1), (1, 2), (2, 0)] * 8)]


class Limits(unittest.TestCase):
    def test_sixty_inside_and_three_hundred_changes(self):
        chance = random.Random(141)
        for board in BOARDS:
            start = random_setting(chance, board)
            flow, slow = Flow(board, start=start), SlowTickets(board, start)
            for number in range(60):
                name, lane = chance.choice(["enter", "enter", "give_back"]), chance.randrange(board.lane_count)
                self.assertEqual([getattr(flow, name)(lane), getattr(slow, name)(lane)], [number, number])
            for _ in range(120):
                ticket = chance.choice(slow.state["tickets"])
                self.assertEqual(flow.advance(ticket), slow.advance(ticket))
            self.assertEqual(standing(flow), slow_standing(slow))
            for _ in range(40):
                self.assertEqual([flow.undo(), slow.undo()], [None, None])
            self.assertEqual(standing(flow), slow_standing(slow))
            for _ in range(79):
                ticket = chance.choice(slow.state["tickets"])
                self.assertEqual(flow.advance(ticket), slow.advance(ticket))
            self.assertEqual(standing(flow), slow_standing(slow))
            self.assertEqual(flow.finish_all(), slow.finish_all())
            self.assertEqual(standing(flow), slow_standing(slow))

    def test_all_changes_can_be_reverted(self):
        chance = random.Random(142)
        for board in BOARDS:
            flow, states = Flow(board), []
            for at in range(150):
                states.append((flow.setting_now, flow.amounts_now, flow.inside_now, list(flow.events())))
                if at < 60:
                    chance.choice([flow.enter, flow.give_back])(chance.randrange(board.lane_count))
                else:
                    flow.advance(chance.choice(flow.inside_now)[0])
            twin = flow.twin()
            for each in [flow, twin]:
                for state in reversed(states):
                    each.undo()
                    self.assertEqual((each.setting_now, each.amounts_now, each.inside_now, list(each.events())), state)
                self.assertEqual(do(each, "undo", []), "NothingToUndo")

    def test_sixty_tokens_and_their_numbers(self):
        chance = random.Random(143)
        for board in BOARDS:
            start = random_setting(chance, board)
            entries = [chance.randrange(board.lane_count) for _ in range(60)]
            flow = Flow(board, start=start)
            tickets = [flow.enter(lane) for lane in entries]
            told = flow.numbers_to_come()
            self.assertEqual(told, sorted(send_in_turn(board, entries, start).given))
            amounts = [entries.count(lane) for lane in range(board.lane_count)]
            self.assertEqual(flow.amounts_at_end(), amounts_after(board, amounts, start=start)[0])
            chance.shuffle(tickets)
            numbers = []
            for at in range(0, 60, 12):
                numbers += flow.finish(*tickets[at:at + 12])
            self.assertEqual(sorted(numbers), told)
            self.assertEqual([ticket for ticket, _ in flow.events()], tickets)
            self.assertEqual((flow.amounts_now, flow.setting_now), amounts_after(board, amounts, start=start))


if __name__ == "__main__":
    unittest.main()
