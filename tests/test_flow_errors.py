"""Wrong arguments and wrong moments of flows, alone and several at the same time."""

import itertools
import unittest

from flow_tools import standing
from samples import HUGE, NOT_BOARDS, NOT_INTEGERS, NOT_LISTS, bare, full, nested, raised, three
from tokenlanes.boards import Board
from tokenlanes.flows import Flow

WRONG_TICKETS = [-1, 3, 4, HUGE, -HUGE, nested((0,), 19), [0], (0,), {0}, {0: 0}] + NOT_INTEGERS
INVALID_TICKET = ("InvalidTicket", {})
INVALID_LANE = ("InvalidLane", {})
RETURN_INSIDE = ("ReturnInside", {})
TOO_LARGE = ("TooLarge", {"limit": 3})


def crowd(board, names):
    """Return a flow on which some have entered: `e` stands for a token, `b` for a return, on lane 0."""
    flow = Flow(board)
    for name in names:
        flow.enter(0) if name == "e" else flow.give_back(0)
    return flow


class WrongBoards(unittest.TestCase):
    def test_boards(self):
        for wrong in NOT_BOARDS:
            for start in [None, [], [2], "0", [0] * 400]:
                with self.subTest(wrong=wrong, start=start):
                    self.assertEqual(raised(Flow, wrong, start=start), ("InvalidBoard", {}))

    def test_starts(self):
        pointers = [2, -1, HUGE] + NOT_INTEGERS
        lists = [[], [0], [0] * 5, [0] * 7, [0] * 400] + [[0, 1, 0, pointer, 0, 1] for pointer in pointers]
        not_lists = [wrong for wrong in NOT_LISTS if wrong is not None]
        for wrong in lists + not_lists + [(0,) * 6, "000000", [[0] * 6]]:
            with self.subTest(wrong=wrong):
                self.assertEqual(raised(Flow, full, start=wrong), ("InvalidSetting", {}))
        for wrong in not_lists + [[0], [[]], [None], "-"]:
            with self.subTest(wrong=wrong):
                self.assertEqual(raised(Flow, bare, start=wrong), ("InvalidSetting", {}))


class WrongArguments(unittest.TestCase):
    """Each wrong call is made on a flow with somebody inside, and changes nothing."""

    def check(self, flow, name, values, expected):
        before = standing(flow)
        with self.subTest(name=name, values=values):
            self.assertEqual(raised(getattr(flow, name), *values), expected)
            self.assertEqual(standing(flow), before)

    def test_lanes(self):
        for board in [bare, three, full, Board(8, [(0, 1)])]:
            flow = crowd(board, "eb")
            flow.advance(1)
            for wrong in [board.lane_count, -1, -board.lane_count, 9, HUGE, -HUGE] + NOT_INTEGERS:
                for name in ["enter", "give_back"]:
                    self.check(flow, name, [wrong], INVALID_LANE)
            flow.undo()
            flow.undo()
            self.assertEqual(flow.inside_now, crowd(board, "e").inside_now)

    def test_tickets(self):
        for board in [bare, full]:
            flow = crowd(board, "eee")
            flow.finish(1)
            for wrong in WRONG_TICKETS + [1]:
                for name in ["advance", "finish", "numbers_open"]:
                    self.check(flow, name, [wrong], INVALID_TICKET)
            flow.undo()
            self.assertEqual(standing(flow), standing(crowd(board, "eee")))

    def test_wrong_tickets_among_good_ones(self):
        flow = crowd(full, "ebe")
        for wrong in WRONG_TICKETS:
            for values in [(wrong, 0), (0, wrong), (2, wrong, 1), (wrong, wrong), (0, wrong, 0), (0, 1, 2, wrong)]:
                self.check(flow, "finish", values, INVALID_TICKET)

    def test_tickets_that_are_there_twice(self):
        for board in [bare, full]:
            flow = crowd(board, "ebe")
            for values in [(0, 0), (1, 1), (2, 0, 2), (0, 1, 2, 0), (2,) * 12]:
                self.check(flow, "finish", values, INVALID_TICKET)

    def test_true_and_false_are_no_tickets_and_no_lanes(self):
        flow = crowd(full, "ee")
        for wrong in [True, False]:
            for name in ["advance", "finish", "numbers_open"]:
                self.check(flow, name, [wrong], INVALID_TICKET)
            for name in ["enter", "give_back"]:
                self.check(flow, name, [wrong], INVALID_LANE)
            self.check(flow, "finish", [0, wrong], INVALID_TICKET)

    def test_nobody_on_the_board(self):
        for board in [bare, full]:
            flow = Flow(board)
            for wrong in [0, 1] + WRONG_TICKETS:
                for name in ["advance", "finish", "numbers_open"]:
                    self.check(flow, name, [wrong], INVALID_TICKET)
            self.check(flow, "undo", [], ("NothingToUndo", {}))

    def test_returns_where_only_tokens_may_be(self):
        for board in [bare, full]:
            for names in ["b", "eb", "be", "bb", "eeb", "eeeb", "beeee"]:
                flow = crowd(board, names)
                self.check(flow, "numbers_to_come", [], RETURN_INSIDE)
                for ticket in range(len(names)):
                    self.check(flow, "numbers_open", [ticket], RETURN_INSIDE)

    def test_too_many_tokens(self):
        for board in [bare, full]:
            for names in ["eeee", "e" * 5, "e" * 60]:
                flow = crowd(board, names)
                for ticket in range(len(names)):
                    self.assertEqual(raised(flow.numbers_open, ticket), TOO_LARGE)
                self.check(flow, "numbers_open", [0], TOO_LARGE)
                self.assertEqual(len(flow.numbers_to_come()), len(names))

    def test_a_return_that_has_left_is_not_in_the_way(self):
        flow = crowd(full, "ebe")
        flow.finish(1)
        self.assertIsNone(raised(flow.numbers_to_come))
        self.assertIsNone(raised(flow.numbers_open, 0))


class ErrorOrder(unittest.TestCase):
    """If several errors apply, the one that the interface lists first is raised."""

    def test_board_then_start(self):
        for board, start in itertools.product([None, full], [None, [0] * 5]):
            expected = ("InvalidBoard", {}) if board is None else ("InvalidSetting", {}) if start else None
            self.assertEqual(raised(Flow, board, start=start), expected)

    def test_ticket_then_return_then_too_many(self):
        for wrong, back, many in itertools.product([False, True], repeat=3):
            flow = crowd(full, "e" * (4 if many else 3) + "b" * back)
            expected = INVALID_TICKET if wrong else RETURN_INSIDE if back else TOO_LARGE if many else None
            for ticket in WRONG_TICKETS[3:] if wrong else [0, 1, 2]:
                with self.subTest(ticket=ticket, back=back, many=many):
                    self.assertEqual(raised(flow.numbers_open, ticket), expected)


if __name__ == "__main__":
    unittest.main()
