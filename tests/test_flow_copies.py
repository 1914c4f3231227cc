"""Point 3 for flows: results are new lists, twins are independent, events may be walked as one likes."""

import copy
import inspect
import itertools
import random
import unittest

from flow_tools import after_calls, do, standing
from samples import FULL_TWO, bare, full, random_cases, three
from tokenlanes.boards import Board
from tokenlanes.flows import Flow

CALLS = [
    ("enter", [0]), ("enter", [3]), ("give_back", [2]), ("advance", [0]), ("finish", [2]), ("enter", [1]),
    ("advance", [1]), ("enter", [1]), ("finish", [3]),
]
LISTS = [
    lambda flow: flow.setting_now, lambda flow: flow.amounts_now, lambda flow: flow.inside_now,
    lambda flow: flow.amounts_at_end(), lambda flow: flow.numbers_to_come(), lambda flow: flow.numbers_open(0),
    lambda flow: list(flow.events()), lambda flow: flow.finish(), lambda flow: flow.twin().finish_all(),
    lambda flow: flow.board.gate_list,
]


def spoil(value):
    """Change a list in all its places."""
    value.append("spoilt")
    value[0] = "spoilt"
    value.reverse()


def random_calls(chance, board, many):
    """Return a flow after calls that are drawn."""
    flow = Flow(board)
    for _ in range(many):
        names = ["enter", "give_back"] + ["advance"] * 4 * (len(flow) > 0) + ["finish"] * (len(flow) > 0) + ["undo"]
        name = chance.choice(names)
        if name == "undo":
            do(flow, name, [])
        elif name in ("enter", "give_back"):
            do(flow, name, [chance.randrange(board.lane_count)])
        else:
            do(flow, name, [chance.choice(flow.inside_now)[0]])
    return flow


def all_states(flow):
    """Return what a flow tells now and behind each undo, which empties it of its changes."""
    states = [standing(flow)]
    while do(flow, "undo", []) is None:
        states.append(standing(flow))
    return states


class ResultsAreNew(unittest.TestCase):
    def test_changed_lists_have_no_effect(self):
        for told in LISTS:
            flow, other = after_calls(Flow(full), CALLS), after_calls(Flow(full), CALLS)
            twin = flow.twin()
            expected = told(other)
            for _ in range(2):
                found = told(flow)
                self.assertEqual(found, expected)
                spoil(found)
            self.assertEqual(told(twin), expected)
            self.assertEqual(flow.numbers_open(0), other.numbers_open(0))
            states = all_states(other)
            self.assertEqual(all_states(twin), states)
            self.assertEqual(all_states(flow), states)

    def test_changed_lists_of_numbers_have_no_effect(self):
        for name, values in [("finish", [4, 0]), ("finish", [1]), ("finish_all", [])]:
            flow, other = after_calls(Flow(full), CALLS), after_calls(Flow(full), CALLS)
            found = getattr(flow, name)(*values)
            self.assertEqual(found, getattr(other, name)(*values))
            spoil(found)
            self.assertEqual(list(flow.events()), list(other.events()))
            self.assertEqual(all_states(flow), all_states(other))

    def test_each_result_is_a_list_of_its_own(self):
        for board in [bare, full]:
            flow = Flow(board)
            flow.enter(0)
            for told in LISTS:
                first, second = told(flow), told(flow)
                self.assertIs(type(first), list)
                self.assertIsNot(first, second)
            found = [flow.setting_now, flow.amounts_now, flow.amounts_at_end(), flow.setting_now]
            self.assertEqual(len({id(each) for each in found}), 4)

    def test_the_kinds_of_the_results(self):
        flow = after_calls(Flow(full), CALLS)
        for each in flow.inside_now + list(flow.events()):
            self.assertIs(type(each), tuple)
            self.assertTrue(all(type(part) in (int, type(None)) for part in each), each)
        self.assertIs(type(flow.enter(0)), int)
        self.assertIs(type(flow.advance(0)), type(None))
        for numbers in [flow.finish(0), flow.finish_all(), flow.setting_now, flow.amounts_now, flow.amounts_at_end()]:
            self.assertTrue(all(type(number) is int for number in numbers))
        self.assertIsNone(flow.undo())
        self.assertIs(type(flow.twin()), Flow)

    def test_equal_flows_give_equal_results(self):
        for chance, board, _ in random_cases(131, 20):
            seed = chance.random()
            one = random_calls(random.Random(seed), board, 30)
            other = random_calls(random.Random(seed), Board(board.lane_count, board.gate_list), 30)
            self.assertEqual(standing(one), standing(other))


class Arguments(unittest.TestCase):
    def test_the_start_stays_and_can_be_changed_afterwards(self):
        for board, start in [(full, [0, 1, 0, 1, 0, 1]), (bare, [])]:
            given = list(start)
            flow = Flow(board, start=given)
            lane = board.lane_count - 1
            flow.enter(lane)
            flow.finish_all()
            self.assertEqual(given, start)
            flow.undo()
            flow.undo()
            given.append(1)
            given[0] = 1
            self.assertEqual(flow.setting_now, start)
            self.assertEqual(standing(flow), standing(Flow(board, start=start)))

    def test_the_gates_of_the_board_can_be_changed_afterwards(self):
        gates = list(FULL_TWO)
        board = Board(4, gates)
        flow = Flow(board)
        gates[0] = (1, 3)
        gates.clear()
        board.gate_list.clear()
        self.assertEqual(all_states(after_calls(flow, CALLS)), all_states(after_calls(Flow(full), CALLS)))
        self.assertEqual((board.gate_list, flow.board == full), (FULL_TWO, True))

    def test_flows_on_one_board_are_apart(self):
        flow, other = Flow(full), Flow(full)
        after_calls(flow, CALLS)
        self.assertEqual(standing(other), standing(Flow(full)))
        self.assertEqual(full.gate_list, FULL_TWO)

    def test_the_wrong_tickets_stay(self):
        flow = after_calls(Flow(full), CALLS)
        for wrong in [[0, [1]], {0: [1]}]:
            kept = copy.deepcopy(wrong)
            for name in ["advance", "finish", "numbers_open", "enter", "give_back"]:
                do(flow, name, [wrong])
            self.assertEqual(wrong, kept)


class Twins(unittest.TestCase):
    def test_they_are_in_the_same_state_with_the_same_changes_to_undo(self):
        for chance, board, _ in random_cases(132, 40):
            flow = random_calls(chance, board, 25)
            twin = flow.twin()
            self.assertEqual(standing(twin), standing(flow))
            self.assertEqual(all_states(twin), all_states(flow))

    def test_they_go_on_without_an_effect_on_each_other(self):
        for chance, board, _ in random_cases(133, 40):
            seed = chance.random()
            flow = random_calls(random.Random(seed), board, 20)
            kept = standing(flow)
            twin = flow.twin()
            self.change(twin, chance)
            self.assertEqual(standing(flow), kept)
            states = all_states(random_calls(random.Random(seed), board, 20))
            self.assertEqual(all_states(flow.twin()), states)
            third = flow.twin()
            self.change(flow, chance)
            self.assertEqual(all_states(third), states)

    def change(self, flow, chance):
        """Revert some changes and make others."""
        for _ in range(chance.randint(0, 8)):
            do(flow, "undo", [])
        for name in ["enter", "give_back", "enter"]:
            ticket = do(flow, name, [chance.randrange(2)])
            do(flow, "advance", [ticket])
        flow.finish_all()

    def test_undo_of_a_twin_leaves_the_flow(self):
        flow = after_calls(Flow(full), CALLS)
        twin = flow.twin()
        kept = standing(flow)
        first = all_states(twin)
        self.assertEqual((standing(flow), len(twin)), (kept, 0))
        self.assertEqual(all_states(flow), first)

    def test_tickets_of_a_twin(self):
        flow = after_calls(Flow(full), CALLS)
        twin = flow.twin()
        self.assertEqual([twin.enter(0), twin.enter(0), flow.enter(1), twin.enter(0)], [5, 6, 5, 7])
        flow.undo()
        self.assertEqual([flow.give_back(0), len(twin), len(flow)], [5, 6, 4])

    def test_a_twin_of_a_twin(self):
        flow = after_calls(Flow(three, start=[1, 0, 1]), [("enter", [0]), ("advance", [0])])
        twin = flow.twin().twin()
        flow.finish_all()
        self.assertEqual((twin.inside_now, len(flow)), ([(0, 1, 1)], 0))
        twin.undo()
        twin.undo()
        self.assertEqual((twin.setting_now, twin.inside_now), ([1, 0, 1], []))

    def test_a_twin_of_a_new_flow(self):
        twin = Flow(three, start=[1, 0, 1]).twin()
        self.assertEqual((twin.setting_now, twin.amounts_now, len(twin), twin.enter(0)), ([1, 0, 1], [0, 0, 0], 0, 0))
        twin.undo()
        self.assertEqual(do(twin, "undo", []), "NothingToUndo")


class Events(unittest.TestCase):
    def flow(self):
        flow = Flow(bare)
        for lane in [0, 1, 0, 1]:
            flow.enter(lane)
        flow.finish(2, 1)
        flow.finish(3)
        return flow

    def test_they_are_a_generator(self):
        self.assertTrue(inspect.isgeneratorfunction(Flow.events))
        self.assertTrue(inspect.isgenerator(self.flow().events()))
        self.assertEqual(list(Flow(bare).events()), [])

    def test_in_the_order_of_leaving(self):
        flow = self.flow()
        self.assertEqual(list(flow.events()), [(2, 0), (1, 1), (3, 3)])
        flow.finish_all()
        self.assertEqual(list(flow.events()), [(2, 0), (1, 1), (3, 3), (0, 2)])

    def test_returns_are_events_too(self):
        flow = self.flow()
        flow.give_back(1)
        flow.finish_all()
        self.assertEqual(list(flow.events())[3:], [(0, 2), (4, 3)])

    def test_walked_twice_at_the_same_time(self):
        flow = self.flow()
        self.assertEqual(list(itertools.product(flow.events(), flow.events())),
                         [(one, other) for one in flow.events() for other in flow.events()])
        first, second = flow.events(), flow.events()
        self.assertEqual([next(first), next(first), next(second), next(first), next(second), next(second)],
                         [(2, 0), (1, 1), (2, 0), (3, 3), (1, 1), (3, 3)])
        self.assertEqual([next(first, None), next(second, None)], [None, None])

    def test_left_early(self):
        flow = self.flow()
        for event in flow.events():
            self.assertEqual(event, (2, 0))
            break
        walk = flow.events()
        next(walk)
        walk.close()
        self.assertEqual(len(list(flow.events())), 3)
        flow.finish_all()
        self.assertEqual(len(list(flow.events())), 4)

    def test_other_results_while_they_are_walked(self):
        flow = self.flow()
        told = []
        for ticket, number in flow.events():
            told.append((ticket, number, flow.numbers_to_come(), flow.amounts_at_end(), flow.twin().finish_all()))
        self.assertEqual(told, [(ticket, number, [2], [2, 2], [2]) for ticket, number in flow.events()])


if __name__ == "__main__":
    unittest.main()
