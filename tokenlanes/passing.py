"""Tokens and returns that pass a board."""

from tokenlanes.boards import check_board
from tokenlanes.checks import GREATEST, check_amounts, check_lane, chosen_setting
from tokenlanes.errors import InvalidEntries, InvalidNumber
from tokenlanes.kinds import is_between, is_list_between


def run_tokens(board, entries, *, start=None):
    """Return the exits of tokens that enter one after the other, and the setting afterwards."""
    check_board(board)
    check_entries(board, entries)
    setting = chosen_setting(board, start)
    gates = board.gate_list
    exits = []
    for lane in entries:
        exits.append(pass_token(gates, setting, lane))
    return exits, setting


def numbers_of(board, entries, *, start=None):
    """Return the numbers of tokens that enter one after the other."""
    exits, _ = run_tokens(board, entries, start=start)
    lane_count = board.lane_count
    amounts = [0] * lane_count
    numbers = []
    for lane in exits:
        numbers.append(lane + lane_count * amounts[lane])
        amounts[lane] += 1
    return numbers


def amounts_after(board, amounts, *, start=None):
    """Return the amounts that leave and the setting, after amounts have entered and left."""
    check_board(board)
    check_amounts(board, amounts)
    setting = chosen_setting(board, start)
    leaving = list(amounts)
    for index, (first, second) in enumerate(board.gate_list):
        many = leaving[first] + leaving[second]
        smaller = many // 2
        shares = (many - smaller, smaller)
        leaving[first] = shares[setting[index]]
        leaving[second] = shares[1 - setting[index]]
        setting[index] = (setting[index] + many) % 2
    return leaving, setting


def exit_of(board, lane, number, *, start=None):
    """Return the exit of the token with an index, if all tokens enter on one lane."""
    check_board(board)
    check_lane(board, lane)
    if not is_between(number, 0, GREATEST):
        raise InvalidNumber("not the index of a token")
    before = [0] * board.lane_count
    before[lane] = number
    _, setting = amounts_after(board, before, start=start)
    return pass_token(board.gate_list, setting, lane)


def walk_exits(board, lane, *, start=None):
    """Yield the exits of the tokens that enter on one lane, without end."""
    check_board(board)
    check_lane(board, lane)
    setting = chosen_setting(board, start)
    gates = board.gate_list
    while True:
        yield pass_token(gates, setting, lane)


def check_entries(board, value):
    """Raise InvalidEntries if any value is not a list of lanes of the board."""
    if not is_list_between(value, 0, board.lane_count - 1):
        raise InvalidEntries("not a list of lanes of the board")


def pass_token(gates, setting, lane):
    """Send a token from a lane through all gates, turn their pointers, return its exit."""
    for index, gate in enumerate(gates):
        if lane in gate:
            lane = gate[setting[index]]
            setting[index] = 1 - setting[index]
    return lane
