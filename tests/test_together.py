"""What the document promises over the whole program: several files tell the same."""

import random
import unittest

from samples import FULL_ONE, all_settings, full, random_board, random_cases, random_setting, three
from slow_model import send_in_turn
from slow_search import failing_list
from tokenlanes.alike import alike_settings, are_alike
from tokenlanes.boards import Board
from tokenlanes.counting import failing_entries, is_counting
from tokenlanes.desk import Desk
from tokenlanes.flows import Flow
from tokenlanes.hidden import certain_pointers, possible_exits, possible_starts
from tokenlanes.neutral import basis_of, have_same_effect, is_neutral, period_of
from tokenlanes.passing import amounts_after, exit_of, numbers_of, run_tokens
from tokenlanes.settings import fewest_tokens, reachable
from tokenlanes.texts import read_board, read_setting, show_board, show_setting

# Boards that count from the setting in which all pointers are 0.
COUNTING = [
    Board(2, FULL_ONE), full, Board(2, [(0, 1), (0, 1)]), Board(4, full.gate_list + [(0, 1), (2, 3)]),
    Board(2, [(1, 0), (0, 1)]),
]


def enter_mixed(flow, chance, crowd):
    """Let all of a crowd of (lane, whether a return) enter and leave, in an order of steps that is drawn.

    Return for each ticket whether it is that of a return.
    """
    crowd, returns = list(crowd), {}
    chance.shuffle(crowd)
    while crowd or len(flow) > 0:
        if crowd and (len(flow) == 0 or chance.random() < 0.4):
            lane, is_return = crowd.pop()
            returns[flow.give_back(lane) if is_return else flow.enter(lane)] = is_return
        else:
            flow.advance(chance.choice(flow.inside_now)[0])
    return returns


def crowd_of(amounts, extra=0):
    """Return tokens and returns of these amounts, and on each lane some more of both."""
    return [(lane, is_return) for lane, amount in enumerate(amounts) for is_return, many in
            [(False, max(amount, 0) + extra), (True, max(-amount, 0) + extra)] for _ in range(many)]


def send_through(flow, amounts):
    """Let tokens and returns of these amounts enter and leave, one after the other."""
    for lane, is_return in crowd_of(amounts):
        flow.finish(flow.give_back(lane) if is_return else flow.enter(lane))


class TokensOneAfterTheOther(unittest.TestCase):
    def test_run_tokens_and_numbers_of_and_a_flow(self):
        for chance, board, start in random_cases(191, 80):
            entries = [chance.randrange(board.lane_count) for _ in range(chance.randint(0, 30))]
            flow = Flow(board, start=start)
            numbers = [flow.finish(flow.enter(lane))[0] for lane in entries]
            self.assertEqual(numbers, numbers_of(board, entries, start=start))
            exits, setting = run_tokens(board, entries, start=start)
            self.assertEqual([number % board.lane_count for number in numbers], exits)
            self.assertEqual(flow.setting_now, setting)
            self.assertEqual(list(flow.events()), list(enumerate(numbers)))
            self.assertEqual(flow.amounts_now, [exits.count(lane) for lane in range(board.lane_count)])

    def test_run_tokens_and_a_desk(self):
        for chance, board, _ in random_cases(192, 40):
            entries = [chance.randrange(board.lane_count) for _ in range(12)]
            desk = Desk()
            desk.execute("board " + show_board(board))
            numbers = [desk.execute("finish " + desk.execute(f"enter {lane}")) for lane in entries]
            self.assertEqual(numbers, [str(number) for number in numbers_of(board, entries)])
            self.assertEqual(desk.execute("setting"), show_setting(board, run_tokens(board, entries)[1]))

    def test_exit_of_and_a_flow(self):
        for chance, board, start in random_cases(193, 40):
            lane = chance.randrange(board.lane_count)
            flow = Flow(board, start=start)
            for number in range(20):
                told = flow.finish(flow.enter(lane))[0] % board.lane_count
                self.assertEqual(told, exit_of(board, lane, number, start=start))


class AnyOrder(unittest.TestCase):
    def test_amounts_after_and_a_flow_whatever_the_order(self):
        for chance, board, start in random_cases(194, 80):
            amounts = [chance.randint(-3, 3) for _ in range(board.lane_count)]
            told = amounts_after(board, amounts, start=start)
            for extra in range(2):
                flow = Flow(board, start=start)
                enter_mixed(flow, chance, crowd_of(amounts, extra))
                self.assertEqual((flow.amounts_now, flow.setting_now), told)
            flow = Flow(board, start=start)
            for lane, is_return in crowd_of(amounts, 1):
                flow.give_back(lane) if is_return else flow.enter(lane)
            self.assertEqual(flow.amounts_at_end(), told[0])
            flow.finish_all()
            self.assertEqual((flow.amounts_now, flow.setting_now), told)

    def test_amounts_after_and_a_desk(self):
        for chance, board, _ in random_cases(195, 40):
            amounts = [chance.randint(-2, 2) for _ in range(board.lane_count)]
            rows = [f"back {lane}" if is_return else f"enter {lane}" for lane, is_return in crowd_of(amounts, 1)]
            chance.shuffle(rows)
            desk = Desk()
            desk.execute("board " + show_board(board))
            tickets = [desk.execute(row) for row in rows]
            for _ in range(20):
                ticket = chance.choice(tickets)
                if desk.execute("go " + ticket) != "-":
                    tickets.remove(ticket)
                    if not tickets:
                        break
            desk.execute("all")
            leaving, setting = amounts_after(board, amounts)
            self.assertEqual(desk.execute("amounts"), " ".join(map(str, leaving)))
            self.assertEqual(desk.execute("setting"), show_setting(board, setting))

    def test_the_same_numbers_in_any_order(self):
        for chance, board, start in random_cases(196, 60):
            entries = [chance.randrange(board.lane_count) for _ in range(8)]
            flow = Flow(board, start=start)
            enter_mixed(flow, chance, [(lane, False) for lane in entries])
            told = numbers_of(board, entries, start=start)
            self.assertEqual(sorted(number for _, number in flow.events()), sorted(told))

    def test_returns_take_back_the_numbers_of_the_last_tokens(self):
        for chance, board, start in random_cases(197, 60):
            entries = [chance.randrange(board.lane_count) for _ in range(10)]
            flow = Flow(board, start=start)
            numbers = [flow.finish(flow.enter(lane))[0] for lane in entries]
            back = [flow.finish(flow.give_back(lane))[0] for lane in reversed(entries)]
            self.assertEqual(back, numbers[::-1])
            self.assertEqual((flow.setting_now, flow.amounts_now), (start, [0] * board.lane_count))
            # In another order each one takes back a number, and together they take back the same ones.
            flow = Flow(board, start=start)
            for lane in entries:
                flow.finish(flow.enter(lane))
            enter_mixed(flow, chance, [(lane, True) for lane in entries])
            self.assertEqual(sorted(number for _, number in list(flow.events())[10:]), sorted(numbers))

    def test_open_numbers_together_are_the_numbers_to_come(self):
        for chance, board, start in random_cases(198, 60):
            flow = Flow(board, start=start)
            for _ in range(chance.randint(1, 3)):
                flow.enter(chance.randrange(board.lane_count))
                flow.advance(chance.choice(flow.inside_now)[0])
            told = [number for ticket, _, _ in flow.inside_now for number in flow.numbers_open(ticket)]
            self.assertEqual(sorted(set(told)), flow.numbers_to_come())


class Neutral(unittest.TestCase):
    def test_neutral_amounts_change_no_pointer_of_a_flow(self):
        for chance, board, start in random_cases(199, 60, most_gates=4):
            for amounts in basis_of(board):
                if sum(map(abs, amounts)) <= 30:
                    flow = Flow(board, start=start)
                    enter_mixed(flow, chance, crowd_of(amounts))
                    self.assertTrue(is_neutral(board, amounts))
                    self.assertEqual(flow.setting_now, start)
                    negative = [-amount for amount in amounts]
                    enter_mixed(flow, chance, crowd_of(negative))
                    self.assertEqual((flow.setting_now, flow.amounts_now), (start, [0] * board.lane_count))

    def test_amounts_and_their_negatives_lead_back(self):
        for chance, board, start in random_cases(200, 60):
            amounts = [chance.randint(-2, 2) for _ in range(board.lane_count)]
            flow = Flow(board, start=start)
            enter_mixed(flow, chance, crowd_of(amounts))
            self.assertEqual(flow.setting_now == start, is_neutral(board, amounts))
            enter_mixed(flow, chance, crowd_of([-amount for amount in amounts]))
            self.assertEqual((flow.setting_now, flow.amounts_now), (start, [0] * board.lane_count))

    def test_the_same_effect_on_a_flow(self):
        for chance, board, start in random_cases(201, 60, most_gates=5):
            lists = [[chance.randint(-2, 2) for _ in range(board.lane_count)] for _ in range(2)]
            settings = []
            for amounts in lists:
                flow = Flow(board, start=start)
                enter_mixed(flow, chance, crowd_of(amounts, 1))
                settings.append(flow.setting_now)
            self.assertEqual(settings[0] == settings[1], have_same_effect(board, *lists))

    def test_periods_on_a_flow(self):
        for chance, board, start in random_cases(202, 40, most_gates=4):
            lane = chance.randrange(board.lane_count)
            flow = Flow(board, start=start)
            told = []
            for _ in range(period_of(board, lane)):
                flow.finish(flow.enter(lane))
                told.append(flow.setting_now)
            self.assertEqual(told.index(start), len(told) - 1)

    def test_fewest_tokens_lead_a_flow_to_the_goal(self):
        for chance, board, start in random_cases(203, 40, most_gates=6):
            settings = reachable(board, start=start)
            goal = chance.choice(settings)
            flow = Flow(board, start=start)
            enter_mixed(flow, chance, crowd_of(fewest_tokens(board, goal, start=start)))
            self.assertEqual(flow.setting_now, goal)
            send_through(flow, [chance.randint(-1, 1) for _ in range(board.lane_count)])
            self.assertIn(flow.setting_now, settings)


class Counting(unittest.TestCase):
    def starts(self):
        """Return boards and settings from which they count."""
        found = [(board, [0] * len(board)) for board in COUNTING] + [(Board.full(3), [0] * 24)]
        for board in COUNTING[1:]:
            found += [(board, start) for start in all_settings(board)[1:] if failing_list(board, start) is None][:3]
        return found

    def test_they_count(self):
        for board, start in self.starts():
            if len(board) <= 8:
                self.assertTrue(is_counting(board, start=start))

    def test_numbers_without_a_gap_whatever_the_order(self):
        chance = random.Random(204)
        for board, start in self.starts():
            for many in [1, 5, 12]:
                crowd = [(chance.randrange(board.lane_count), False) for _ in range(many)]
                flow = Flow(board, start=start)
                enter_mixed(flow, chance, crowd)
                self.assertEqual(sorted(number for _, number in flow.events()), list(range(many)))

    def test_with_returns_that_overtake(self):
        chance = random.Random(205)
        for board, start in self.starts():
            for tokens, returns in [(5, 5), (9, 4), (12, 11), (6, 1)]:
                crowd = [(chance.randrange(board.lane_count), at < returns) for at in range(tokens + returns)]
                flow = Flow(board, start=start)
                is_return = enter_mixed(flow, chance, crowd)
                counts = {}
                for ticket, number in flow.events():
                    counts[number] = counts.get(number, 0) + (-1 if is_return[ticket] else 1)
                self.assertEqual({number: many for number, many in counts.items() if many != 0},
                                 {number: 1 for number in range(tokens - returns)})

    def test_tokens_inside_get_the_next_numbers(self):
        chance = random.Random(206)
        for board, start in self.starts():
            flow = Flow(board, start=start)
            for _ in range(6):
                flow.finish(flow.enter(chance.randrange(board.lane_count)))
            for _ in range(3):
                flow.enter(chance.randrange(board.lane_count))
            self.assertEqual(flow.numbers_to_come(), [6, 7, 8])
            for ticket in (6, 7, 8):
                self.assertTrue(set(flow.numbers_open(ticket)) <= {6, 7, 8})

    def test_counts_of_a_desk_is_is_counting(self):
        for chance, board, _ in random_cases(207, 40, most_gates=8):
            board = chance.choice([board, *COUNTING])
            desk, flow = Desk(), Flow(board)
            desk.execute("board " + show_board(board))
            for _ in range(8):
                lane = chance.randrange(board.lane_count)
                ticket = desk.execute(f"enter {lane}")
                flow.enter(lane)
                for _ in range(chance.randint(0, 3)):
                    if int(ticket) in [inside for inside, _, _ in flow.inside_now]:
                        desk.execute("go " + ticket)
                        flow.advance(int(ticket))
                expected = "yes" if is_counting(board, start=flow.setting_now) else "no"
                self.assertEqual(desk.execute("counts"), expected)
                self.assertEqual(failing_entries(board, start=flow.setting_now) is None, expected == "yes")

    def test_all_settings_from_which_small_boards_count(self):
        for board in [Board(2, [(0, 1), (0, 1)]), Board(4, full.gate_list), three]:
            for start in all_settings(board):
                flow = Flow(board, start=start)
                entries = failing_entries(board, start=start)
                if entries is not None:
                    numbers = [flow.finish(flow.enter(lane))[0] for lane in entries]
                    self.assertEqual(numbers[:-1], list(range(len(numbers) - 1)))
                    self.assertNotEqual(numbers[-1], len(numbers) - 1)


class Hidden(unittest.TestCase):
    def test_starts_are_groups_of_alike_settings(self):
        for chance, board, start in random_cases(208, 40, most_gates=6):
            flow = Flow(board, start=start)
            entries = [chance.randrange(board.lane_count) for _ in range(chance.randint(0, 6))]
            seen = [(lane, flow.finish(flow.enter(lane))[0] % board.lane_count) for lane in entries]
            starts = possible_starts(board, seen)
            self.assertIn(start, starts)
            for group in alike_settings(board):
                self.assertIn([setting in starts for setting in group], [[True] * len(group), [False] * len(group)])
            for other in starts[:4]:
                same = run_tokens(board, entries, start=other)[0]
                self.assertEqual(same, [way_out for _, way_out in seen])
                together = [group for group in alike_settings(board) if other in group][0]
                self.assertEqual(are_alike(board, board, start=start, other_start=other), start in together)

    def test_pointers_and_exits_of_a_flow(self):
        for chance, board, start in random_cases(209, 40, most_gates=8):
            flow = Flow(board, start=start)
            entries = [chance.randrange(board.lane_count) for _ in range(6)]
            seen = [(lane, flow.finish(flow.enter(lane))[0] % board.lane_count) for lane in entries]
            for pointer, certain in zip(start, certain_pointers(board, seen)):
                self.assertIn(certain, [pointer, None])
            for lane in range(board.lane_count):
                twin = flow.twin()
                way_out = twin.finish(twin.enter(lane))[0] % board.lane_count
                self.assertIn(way_out, possible_exits(board, seen, lane))
                self.assertIn(start, possible_starts(board, seen + [(lane, way_out)]))


class Texts(unittest.TestCase):
    def test_boards_and_settings_that_were_read_do_the_same(self):
        for chance, board, start in random_cases(210, 60):
            other = read_board(show_board(board))
            setting = read_setting(other, show_setting(board, start))
            entries = [chance.randrange(board.lane_count) for _ in range(10)]
            told = send_in_turn(board, entries, start)
            flow = Flow(other, start=setting)
            for lane in entries:
                flow.enter(lane)
                flow.finish_all()
            self.assertEqual((flow.setting_now, flow.amounts_now), (told.setting, told.amounts))

    def test_a_desk_tells_the_setting_of_its_flow(self):
        chance = random.Random(211)
        for _ in range(30):
            board = random_board(chance)
            desk, flow = Desk(), Flow(board, start=[0] * len(board))
            desk.execute("board " + show_board(board))
            for _ in range(6):
                lane = chance.randrange(board.lane_count)
                desk.execute(f"enter {lane}")
                flow.enter(lane)
                ticket = chance.choice(flow.inside_now)[0]
                self.assertEqual(desk.execute(f"go {ticket}"), str(flow.advance(ticket)).replace("None", "-"))
                self.assertEqual(read_setting(board, desk.execute("setting")), flow.setting_now)
            self.assertEqual(desk.execute("come").split(" "), list(map(str, flow.numbers_to_come())) or ["-"])


class TwoBoards(unittest.TestCase):
    def test_alike_boards_give_flows_the_same_numbers(self):
        once, twice = Board(2, [(0, 1)]), Board(2, [(0, 1), (0, 1)])
        self.assertTrue(are_alike(once, twice))
        chance = random.Random(212)
        for _ in range(20):
            entries = [chance.randrange(2) for _ in range(15)]
            flows = [Flow(once), Flow(twice)]
            told = [[flow.finish(flow.enter(lane))[0] for lane in entries] for flow in flows]
            self.assertEqual(told[0], told[1])

    def test_boards_one_behind_the_other(self):
        for chance, board, start in random_cases(213, 40, most_gates=12):
            gates = [tuple(chance.sample(range(board.lane_count), 2)) for _ in range(chance.randint(0, 12))]
            second = Board(board.lane_count, gates)
            later = random_setting(chance, second)
            flow = Flow(board.followed_by(second), start=start + later)
            entries = [chance.randrange(board.lane_count) for _ in range(10)]
            exits, setting = run_tokens(board, entries, start=start)
            ends, after = run_tokens(second, exits, start=later)
            numbers = [flow.finish(flow.enter(lane))[0] for lane in entries]
            self.assertEqual([number % board.lane_count for number in numbers], ends)
            self.assertEqual(flow.setting_now, setting + after)


if __name__ == "__main__":
    unittest.main()
