"""The moves of a small board: what one token does, for each of its settings and each lane.

Moves are a list with a row for each setting. A row has for each lane the tuple of the lane
on which a token leaves and the number of the setting afterwards. The number of a setting is
its place among all settings in ascending order.
"""


def number_of(setting):
    """Return the number of a setting."""
    number = 0
    for pointer in setting:
        number = 2 * number + pointer
    return number


def setting_of(board, number):
    """Return the setting of a board with a number, as a new list."""
    return [(number >> place) & 1 for place in reversed(range(len(board)))]


def moves_of(board):
    """Return the moves of a board."""
    moves = [[(lane, 0) for lane in range(board.lane_count)]]
    # The first pointer comes first in the order of the settings, so each gate is
    # put in front of those behind it, from the last one on.
    for gate in reversed(board.gate_list):
        moves = moves_with_pointer(gate, 0, moves) + moves_with_pointer(gate, 1, moves)
    return moves


def moves_with_pointer(gate, pointer, moves):
    """Return the rows of a board that has a gate with this pointer in front of other gates."""
    kept = pointer * len(moves)
    turned = (1 - pointer) * len(moves)
    found = []
    for behind in moves:
        row = [(way_out, after + kept) for way_out, after in behind]
        sent_out, rest = behind[gate[pointer]]
        for lane in gate:
            row[lane] = (sent_out, rest + turned)
        found.append(row)
    return found


def least_parting(moves, number, other_moves, other_number):
    """Return the least of the shortest lists of entries that part two settings, None if none do.

    Entries part two settings, each with the moves of its own board, if the last token
    leaves on different lanes.
    """
    first = (number, other_number)
    steps = {first: None}
    level = [first]
    # Each level is in the order of the least lists that lead to its pairs, so
    # the first difference that is met ends the least list of the shortest ones.
    while level:
        further = []
        for pair in level:
            for lane, (move, other_move) in enumerate(zip(moves[pair[0]], other_moves[pair[1]])):
                if move[0] != other_move[0]:
                    return entries_to(steps, pair) + [lane]
                found = (move[1], other_move[1])
                if found not in steps:
                    steps[found] = (pair, lane)
                    further.append(found)
        level = further
    return None


def entries_to(steps, pair):
    """Return the entries that lead to a pair, where `steps` has the last step to each one."""
    entries = []
    step = steps[pair]
    while step is not None:
        before, lane = step
        entries.append(lane)
        step = steps[before]
    return entries[::-1]
