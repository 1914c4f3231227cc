"""The settings that can be reached, and by how few tokens."""

from tokenlanes.boards import check_board
from tokenlanes.checks import check_few_gates, check_setting, chosen_setting
from tokenlanes.moves import moves_of, number_of, setting_of


def reachable(board, *, start=None):
    """Return the ascending list of the settings that can be reached."""
    check_board(board)
    setting = chosen_setting(board, start)
    check_few_gates(board)
    numbers = numbers_from(moves_of(board), number_of(setting))
    return [setting_of(board, number) for number in numbers]


def fewest_tokens(board, goal, *, start=None):
    """Return the least amounts of the fewest tokens that lead to a goal, None if none do."""
    check_board(board)
    check_setting(board, goal)
    setting = chosen_setting(board, start)
    check_few_gates(board)
    wanted = number_of(goal)
    moves = moves_of(board)
    level = {number_of(setting): [0] * board.lane_count}
    found = {}
    while level:
        if wanted in level:
            return level[wanted]
        found.update(level)
        level = one_token_more(moves, level, found)
    return None


def classes_of(board):
    """Return the list of all settings by which ones can be reached from each other."""
    check_board(board)
    check_few_gates(board)
    moves = moves_of(board)
    placed = {}
    classes = []
    for number in range(len(moves)):
        if number not in placed:
            numbers = numbers_from(moves, number)
            placed.update({reached: True for reached in numbers})
            classes.append([setting_of(board, reached) for reached in numbers])
    return classes


def numbers_from(moves, number):
    """Return the ascending list of the numbers of the settings that can be reached."""
    found = {number: True}
    waiting = [number]
    while waiting:
        row = moves[waiting.pop()]
        for _, after in row:
            if after not in found:
                found[after] = True
                waiting.append(after)
    return sorted(found)


def one_token_more(moves, level, found):
    """Return the least amounts for the settings that one token more reaches for the first time.

    `level` has the least amounts for those that the tokens before reach for the first time.
    The order of the tokens does not matter, so without any one of its tokens a least list is
    the least one for the setting before that token.
    """
    further = {}
    for number, amounts in level.items():
        for lane, (_, after) in enumerate(moves[number]):
            if after not in found:
                more = list(amounts)
                more[lane] += 1
                if after not in further or more < further[after]:
                    further[after] = more
    return further
