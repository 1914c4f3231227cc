"""Point 21: the commands of a desk, compared with the slow model, and the rows that are none."""

import random
import re
import unittest

from samples import HUGE, NOT_INTEGERS, NOT_LISTS, full, nested, raised, random_board
from slow_search import failing_list
from slow_tickets import SlowTickets
from text_samples import NO_TEXTS, is_board_text, one_sign_other, text_of
from tokenlanes.desk import Desk

FULL = "4: 0-1 2-3 0-3 1-2 0-1 2-3"
INVALID_COMMAND = ("InvalidCommand", {})
PLAIN = ["all", "undo", "setting", "amounts", "come", "counts"]
NUMBERED = ["enter", "back", "go", "finish", "open"]


def asked(desk, row):
    """Return the result of a row, or the name of its error."""
    told = []
    error = raised(lambda: told.append(desk.execute(row)))
    return told[0] if error is None else error[0]


def after_rows(*rows):
    """Return a desk after some rows."""
    desk = Desk()
    for row in rows:
        desk.execute(row)
    return desk


def is_command(row):
    """Return whether a text of printable signs is a command."""
    if row.startswith("board "):
        return is_board_text(row[6:])
    return re.fullmatch("|".join(PLAIN) + "|(" + "|".join(NUMBERED) + ") (0|[1-9][0-9]{0,8})", row) is not None


def spaced(numbers):
    return " ".join(map(str, numbers)) or "-"


class SlowDesk:
    """A desk over the slow model."""

    def __init__(self):
        self.slow = None

    def execute(self, row, board=None):
        word, *numbers = row.split(" ")
        if word == "board":
            self.slow, self.board = SlowTickets(board, [0] * len(board)), board
            return "ok"
        if self.slow is None:
            return "NoFlow"
        return getattr(self, "tell_" + word)(*map(int, numbers))

    def tell_enter(self, lane):
        return str(self.slow.enter(lane)) if lane < self.board.lane_count else "InvalidLane"

    def tell_back(self, lane):
        return str(self.slow.give_back(lane)) if lane < self.board.lane_count else "InvalidLane"

    def tell_go(self, ticket):
        number = self.slow.advance(ticket)
        return "-" if number is None else str(number)

    def tell_finish(self, ticket):
        told = self.slow.finish(ticket)
        return told if isinstance(told, str) else str(told[0])

    def tell_all(self):
        return spaced(self.slow.finish_all())

    def tell_undo(self):
        return self.slow.undo() or "ok"

    def tell_setting(self):
        return "".join(map(str, self.slow.state["flow"].setting)) or "-"

    def tell_amounts(self):
        return spaced(self.slow.state["flow"].amounts)

    def tell_come(self):
        if self.slow.has_return():
            return "ReturnInside"
        end = self.slow.at_end(random.Random(1)).state["events"]
        return spaced(sorted(number for _, number in end[len(self.slow.state["events"]):]))

    def tell_open(self, ticket):
        tickets = self.slow.state["tickets"]
        if ticket not in tickets:
            return "InvalidTicket"
        if self.slow.has_return():
            return "ReturnInside"
        return spaced(self.slow.open_numbers()[ticket]) if len(tickets) <= 3 else "TooLarge"

    def tell_counts(self):
        if len(self.board) > 8:
            return "TooLarge"
        return "yes" if failing_list(self.board, self.slow.state["flow"].setting) is None else "no"


def drawn_row(chance, board, slow):
    """Return a row that is a command, mostly one that gives no error."""
    tickets = slow.slow.state["tickets"] if slow.slow else []
    words = ["enter"] * 6 + ["back"] + ["go"] * 12 + ["finish"] * 2 + ["open"] * 3 + ["undo"] * 3 + PLAIN
    word = chance.choice(words)
    if word in ("enter", "back"):
        return f"{word} {chance.randrange(board.lane_count) if chance.random() < 0.95 else chance.randint(0, 10)}"
    if word in ("go", "finish", "open"):
        return f"{word} {chance.choice(tickets) if tickets and chance.random() < 0.9 else chance.randint(0, 12)}"
    return word


class AgainstTheSlowModel(unittest.TestCase):
    def test_random_rows(self):
        for seed in range(150):
            chance = random.Random(1000 + seed)
            desk, slow = Desk(), SlowDesk()
            for at in range(chance.choice([1, 1, 2])):
                board = random_board(chance, chance.choice([3, 6, 10]))
                for _ in range(3 - 3 * at):
                    row = drawn_row(chance, board, slow)
                    self.assertEqual(asked(desk, row), slow.execute(row))
                text = "board " + text_of(board.lane_count, board.gate_list)
                self.assertEqual(asked(desk, text), slow.execute(text, board))
                for _ in range(40):
                    row = drawn_row(chance, board, slow)
                    with self.subTest(row=row, gates=board.gate_list):
                        self.assertEqual(asked(desk, row), slow.execute(row))


class Results(unittest.TestCase):
    def test_each_command(self):
        told = [
            (f"board {FULL}", "ok"), ("setting", "000000"), ("amounts", "0 0 0 0"), ("come", "-"), ("all", "-"),
            ("counts", "yes"), ("enter 0", "0"), ("come", "0"), ("open 0", "0"), ("back 3", "1"), ("enter 3", "2"),
            ("go 2", "-"), ("setting", "010000"), ("finish 1", "-1"), ("amounts", "0 0 0 -1"), ("counts", "no"),
            ("all", "0 -1"), ("amounts", "1 0 0 0"), ("undo", "ok"), ("amounts", "0 0 0 -1"), ("undo", "ok"),
            ("amounts", "0 0 0 0"), ("setting", "010000"),
        ]
        desk = Desk()
        self.assertEqual([(row, asked(desk, row)) for row, _ in told], told)

    def test_results_are_texts(self):
        desk = Desk()
        for row in [f"board {FULL}", "enter 0", "enter 1", "go 0", "finish 0", "come", "open 1", "all", "setting",
                    "amounts", "counts", "undo", "back 2", "all"]:
            self.assertIs(type(desk.execute(row)), str)

    def test_nothing_to_tell(self):
        desk = after_rows("board 2:")
        self.assertEqual([desk.execute(row) for row in ["all", "come", "setting", "amounts"]], ["-", "-", "-", "0 0"])
        self.assertEqual(asked(desk, "undo"), "NothingToUndo")

    def test_a_step_that_does_not_leave(self):
        desk = after_rows("board 2: 0-1", "enter 0")
        self.assertEqual([desk.execute("go 0"), desk.execute("go 0")], ["-", "0"])

    def test_numbers_below_0(self):
        desk = after_rows("board 2:", "back 0", "back 0", "back 1")
        self.assertEqual([desk.execute(row) for row in ["go 2", "finish 0", "all", "amounts"]],
                         ["-1", "-2", "-4", "-2 -1"])
        self.assertEqual([desk.execute(row) for row in ["enter 0", "enter 1", "come", "open 3", "all"]],
                         ["3", "4", "-4 -1", "-4", "-4 -1"])

    def test_counts_is_about_the_present_setting(self):
        desk = after_rows(f"board {FULL}", "enter 0")
        told = []
        for _ in range(4):
            told.append((desk.execute("setting"), desk.execute("counts")))
            desk.execute("go 0")
        expected = [(text, "yes" if failing_list(full, list(map(int, text))) is None else "no") for text, _ in told]
        self.assertEqual(told, expected)
        self.assertEqual({answer for _, answer in told}, {"yes", "no"})

    def test_counts_whoever_is_on_the_board(self):
        for rows in [["enter 0"], ["back 0"], ["enter 0"] * 9, ["enter 1", "back 1"]]:
            self.assertEqual(after_rows(f"board {FULL}", *rows).execute("counts"), "yes")
        self.assertEqual(after_rows("board 3: 0-1 1-2 0-1").execute("counts"), "no")

    def test_great_tickets_and_lanes(self):
        desk = after_rows(f"board {FULL}", *["enter 3"] * 12)
        self.assertEqual([desk.execute("finish 11"), desk.execute("go 10")], ["0", "-"])
        for number in ["4", "10", "999999999", "100000000"]:
            self.assertEqual(asked(desk, f"enter {number}"), "InvalidLane")
            self.assertEqual(asked(desk, f"back {number}"), "InvalidLane")
        for number in ["12", "999999999", "100000000", "11"]:
            for word in ["go", "finish", "open"]:
                self.assertEqual(asked(desk, f"{word} {number}"), "InvalidTicket")


class Boards(unittest.TestCase):
    def test_a_new_board_replaces_the_flow(self):
        desk = after_rows(f"board {FULL}", "enter 3", "go 0", "enter 0")
        self.assertEqual(desk.execute("board 2: 0-1"), "ok")
        self.assertEqual([desk.execute(row) for row in ["setting", "amounts", "come", "all"]], ["0", "0 0", "-", "-"])
        self.assertEqual([asked(desk, row) for row in ["undo", "go 0", "enter 3"]],
                         ["NothingToUndo", "InvalidTicket", "InvalidLane"])
        self.assertEqual(desk.execute("enter 1"), "0")

    def test_the_same_board_again_is_a_new_flow(self):
        desk = after_rows("board 2: 0-1", "enter 1", "finish 0")
        self.assertEqual([desk.execute("amounts"), desk.execute("board 2: 0-1"), desk.execute("amounts")],
                         ["1 0", "ok", "0 0"])

    def test_a_row_that_is_no_command_leaves_the_flow(self):
        desk = after_rows("board 2: 0-1", "enter 1", "go 0")
        for row in ["board 2: 0-2", "board", "board 9:", "board 2: 0-1 ", "board  2:", "boards 2:"]:
            self.assertEqual(asked(desk, row), "InvalidCommand")
            self.assertEqual([desk.execute("setting"), desk.execute("come")], ["1", "0"])

    def test_all_texts_of_boards(self):
        chance = random.Random(181)
        for _ in range(50):
            board = random_board(chance)
            desk = Desk()
            self.assertEqual(desk.execute("board " + text_of(board.lane_count, board.gate_list)), "ok")
            self.assertEqual(desk.execute("setting"), "0" * len(board) or "-")
            self.assertEqual(desk.execute("amounts"), " ".join(["0"] * board.lane_count))

    def test_desks_are_apart(self):
        desk, other = after_rows("board 2: 0-1", "enter 0"), Desk()
        self.assertEqual(asked(other, "all"), "NoFlow")
        other.execute("board 3:")
        self.assertEqual([desk.execute("all"), desk.execute("setting"), other.execute("amounts")], ["0", "1", "0 0 0"])

    def test_the_starts_of_flows_do_not_depend_on_earlier_ones(self):
        desk = after_rows(f"board {FULL}", "enter 0", "all", f"board {FULL}")
        self.assertEqual([desk.execute("setting"), desk.execute("counts")], ["000000", "yes"])


class NoCommands(unittest.TestCase):
    def check(self, row):
        with self.subTest(row=row):
            self.assertEqual(raised(Desk().execute, row), INVALID_COMMAND)
            desk = after_rows(f"board {FULL}", "enter 0", "enter 3", "go 0")
            self.assertEqual(raised(desk.execute, row), INVALID_COMMAND)
            # A row that is no command changes nothing.
            self.assertEqual([desk.execute(told) for told in ["setting", "amounts", "undo", "setting", "enter 1"]],
                             ["100000", "0 0 0 0", "ok", "000000", "2"])

    def test_other_words(self):
        for row in [
            "", " ", "-", "0", "Enter 0", "ENTER 0", "enters 0", "ente 0", "give_back 0", "advance 0", "leave 0",
            "finish_all", "al", "alls", "Undo", "redo", "settings", "amount", "comes", "count", "numbers", "events",
            "twin", "help", "enter0", "all0", "quit", "open", "come 0", "all 0", "undo 1", "setting 0",
            "setting 000000", "amounts 0", "counts 0", "counts yes", "board",
        ]:
            self.check(row)

    def test_wrong_numbers_of_words(self):
        for word in NUMBERED:
            for rest in ["", " ", " 0 0", " 0 ", "  0", " 0  ", " 0 1 2"]:
                self.check(word + rest)
        for word in PLAIN:
            for rest in [" ", "  ", " 0", " -", " " + word]:
                self.check(word + rest)

    def test_spaces_and_other_signs(self):
        for row in PLAIN + ["enter 0", "go 0", "board 2:"]:
            for other in [" " + row, row + " ", row + "\n", "\n" + row, row + "\t", row.upper(), row.title(), row + ".",
                          row + ";", row + "-", row.replace(" ", "  "), row.replace(" ", "\t"), row.replace(" ", "")]:
                if other != row:
                    self.check(other)

    def test_rows_with_one_sign_other(self):
        for row in PLAIN + ["enter 0", "back 1", "go 10", "finish 1", "open 123456789", "board 2:", "board 3: 0-1 2-1"]:
            for other in one_sign_other(row, " 019-:ao"):
                if is_command(other):
                    with self.subTest(row=other):
                        self.assertNotEqual(asked(after_rows(f"board {FULL}"), other), "InvalidCommand")
                else:
                    self.check(other)

    def test_what_is_no_decimal_number(self):
        for number in [
            "00", "01", "007", "000000000", "0000000001", "1234567890", "0" * 4000, "9" * 3990, "-1", "-0", "+1", "+0",
            "1.0", "1e1", "1_0", "0x1", "0b1", "a", "O", "-", "None", "True", "0,1", "0-1", "(0)", "[0]", "'0'",
            "\u0660", "\u00b2", "\u0661", "1\n", "\uff10",
        ]:
            for word in NUMBERED:
                self.check(f"{word} {number}")

    def test_what_is_no_text_of_a_board(self):
        for text in NO_TEXTS:
            self.check(f"board {text}")

    def test_values_that_are_no_texts(self):
        values = [value for value in NOT_LISTS + NOT_INTEGERS if not isinstance(value, str)]
        values += [b"all", ["all"], ("all",), ["enter", "0"], {"all": 1}, nested("all", 20), HUGE, Desk, full]
        for wrong in values:
            self.check(wrong)


class Errors(unittest.TestCase):
    def test_no_flow(self):
        for row in PLAIN + [f"{word} {number}" for word in NUMBERED for number in ["0", "7", "999999999"]]:
            with self.subTest(row=row):
                self.assertEqual(raised(Desk().execute, row), ("NoFlow", {}))

    def test_no_flow_after_a_wrong_board(self):
        desk = Desk()
        self.assertEqual(asked(desk, "board 2: 0-2"), "InvalidCommand")
        self.assertEqual(asked(desk, "all"), "NoFlow")

    def test_errors_of_the_flow(self):
        told = [
            (["enter 4"], ("InvalidLane", {})), (["back 9"], ("InvalidLane", {})), (["go 0"], ("InvalidTicket", {})),
            (["finish 0"], ("InvalidTicket", {})), (["open 0"], ("InvalidTicket", {})),
            (["undo"], ("NothingToUndo", {})),
            (["back 0", "come"], ("ReturnInside", {})), (["back 0", "open 0"], ("ReturnInside", {})),
            (["enter 0"] * 4 + ["open 3"], ("TooLarge", {"limit": 3})),
            (["enter 0"] * 4 + ["back 0", "open 3"], ("ReturnInside", {})),
            (["enter 0"] * 4 + ["back 0", "open 5"], ("InvalidTicket", {})),
            (["enter 0", "undo", "undo"], ("NothingToUndo", {})), (["enter 0", "undo", "go 0"], ("InvalidTicket", {})),
            (["enter 0", "finish 0", "finish 0"], ("InvalidTicket", {})),
        ]
        for rows, expected in told:
            with self.subTest(rows=rows):
                desk = after_rows(f"board {FULL}", *rows[:-1])
                before = [desk.execute(row) for row in ["setting", "amounts"]]
                self.assertEqual(raised(desk.execute, rows[-1]), expected)
                self.assertEqual([desk.execute(row) for row in ["setting", "amounts"]], before)

    def test_counts_of_great_boards(self):
        for many, expected in [(8, None), (9, ("TooLarge", {"limit": 8})), (24, ("TooLarge", {"limit": 8}))]:
            desk = after_rows("board 2:" + " 0-1" * many, "enter 0")
            self.assertEqual(raised(desk.execute, "counts"), expected)
        self.assertEqual(after_rows("board 2:" + " 0-1" * 8).execute("counts"), "yes")

    def test_no_command_comes_before_no_flow(self):
        for row in ["go 01", "enter", "undo ", "all 0", "counts yes", "board 2: 0-0"]:
            self.assertEqual(asked(Desk(), row), "InvalidCommand")


if __name__ == "__main__":
    unittest.main()
