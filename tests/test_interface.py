"""The names, arguments and places that the interface lists."""

import inspect
import unittest

from tokenlanes import alike, boards, counting, errors, hidden, neutral, passing, settings, texts
from tokenlanes.boards import Board
from tokenlanes.desk import Desk
from tokenlanes.flows import Flow

FUNCTIONS = [
    (boards, "is_setting", "(board, value)"),
    (passing, "run_tokens", "(board, entries, *, start=None)"),
    (passing, "numbers_of", "(board, entries, *, start=None)"),
    (passing, "amounts_after", "(board, amounts, *, start=None)"),
    (passing, "exit_of", "(board, lane, number, *, start=None)"),
    (passing, "walk_exits", "(board, lane, *, start=None)"),
    (neutral, "is_neutral", "(board, amounts)"),
    (neutral, "have_same_effect", "(board, amounts, other_amounts)"),
    (neutral, "free_gates", "(board)"),
    (neutral, "count_reachable", "(board)"),
    (neutral, "period_of", "(board, lane)"),
    (neutral, "basis_of", "(board)"),
    (settings, "reachable", "(board, *, start=None)"),
    (settings, "fewest_tokens", "(board, goal, *, start=None)"),
    (settings, "classes_of", "(board)"),
    (counting, "is_counting", "(board, *, start=None)"),
    (counting, "failing_entries", "(board, *, start=None)"),
    (alike, "alike_settings", "(board)"),
    (alike, "are_alike", "(board, other, *, start=None, other_start=None)"),
    (alike, "parting_entries", "(board, other, *, start=None, other_start=None)"),
    (hidden, "possible_starts", "(board, seen)"),
    (hidden, "certain_pointers", "(board, seen)"),
    (hidden, "possible_exits", "(board, seen, lane)"),
    (texts, "show_board", "(board)"),
    (texts, "read_board", "(text)"),
    (texts, "show_setting", "(board, setting)"),
    (texts, "read_setting", "(board, text)"),
]
FLOW_METHODS = [
    ("enter", "(self, lane)"), ("give_back", "(self, lane)"), ("advance", "(self, ticket)"),
    ("finish", "(self, *tickets)"), ("finish_all", "(self)"), ("undo", "(self)"), ("amounts_at_end", "(self)"),
    ("numbers_to_come", "(self)"), ("numbers_open", "(self, ticket)"), ("events", "(self)"), ("twin", "(self)"),
    ("__len__", "(self)"),
]


class Interface(unittest.TestCase):
    def test_functions_are_defined_in_their_files(self):
        for module, name, arguments in FUNCTIONS:
            with self.subTest(name=name):
                found = getattr(module, name)
                self.assertEqual(found.__module__, module.__name__)
                self.assertEqual(str(inspect.signature(found)), arguments)

    def test_the_board_class(self):
        self.assertEqual(Board.__module__, "tokenlanes.boards")
        self.assertEqual(str(inspect.signature(Board)), "(lanes, gates)")
        self.assertEqual(str(inspect.signature(Board.full)), "(power)")
        self.assertEqual(str(inspect.signature(Board.read)), "(text)")
        self.assertEqual(str(inspect.signature(Board.followed_by)), "(self, other)")

    def test_members_of_the_board_class_stand_in_it(self):
        for name, kind in [("lane_count", property), ("gate_list", property), ("depth", property),
                           ("full", classmethod), ("read", classmethod)]:
            with self.subTest(name=name):
                self.assertIsInstance(vars(Board)[name], kind)
        for name in ["followed_by", "__init__", "__len__", "__eq__"]:
            with self.subTest(name=name):
                self.assertTrue(inspect.isfunction(vars(Board)[name]))

    def test_the_flow_class(self):
        self.assertEqual(Flow.__module__, "tokenlanes.flows")
        self.assertEqual(str(inspect.signature(Flow)), "(board, *, start=None)")
        for name in ["setting_now", "amounts_now", "inside_now"]:
            self.assertIsInstance(vars(Flow)[name], property)
        for name, arguments in FLOW_METHODS:
            with self.subTest(name=name):
                self.assertTrue(inspect.isfunction(vars(Flow)[name]))
                self.assertEqual(str(inspect.signature(vars(Flow)[name])), arguments)
        self.assertTrue(inspect.isgeneratorfunction(Flow.events))
        self.assertTrue(inspect.isgeneratorfunction(passing.walk_exits))

    def test_the_desk_class(self):
        self.assertEqual(Desk.__module__, "tokenlanes.desk")
        self.assertEqual(str(inspect.signature(Desk)), "()")
        self.assertTrue(inspect.isfunction(vars(Desk)["execute"]))
        self.assertEqual(str(inspect.signature(Desk.execute)), "(self, row)")

    def test_the_error_classes_stand_in_their_file(self):
        for name, found in vars(errors).items():
            if inspect.isclass(found):
                self.assertEqual(found.__module__, "tokenlanes.errors")
                self.assertEqual(found.__bases__, (ValueError,) if name == "LaneError" else (errors.LaneError,))


if __name__ == "__main__":
    unittest.main()
