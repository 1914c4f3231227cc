"""Amounts that change no pointer, and what follows from them."""

from tokenlanes.boards import check_board
from tokenlanes.checks import check_amounts, check_lane


def is_neutral(board, amounts):
    """Return whether amounts change no pointer."""
    check_board(board)
    check_amounts(board, amounts)
    return first_odd(board.gate_list, amounts) is None


def have_same_effect(board, amounts, other_amounts):
    """Return whether two lists of amounts lead from each setting to the same one."""
    check_board(board)
    check_amounts(board, amounts)
    check_amounts(board, other_amounts)
    return first_odd(board.gate_list, difference(amounts, other_amounts)) is None


def free_gates(board):
    """Return the ascending list of the indices of the free gates."""
    check_board(board)
    free, _ = free_and_basis(board)
    return free


def count_reachable(board):
    """Return the number of the settings that can be reached from a setting."""
    many = 1
    for _ in free_gates(board):
        many = 2 * many
    return many


def period_of(board, lane):
    """Return the least positive number of tokens on one lane that changes no pointer."""
    check_board(board)
    check_lane(board, lane)
    gates = board.gate_list
    amounts = [0] * board.lane_count
    amounts[lane] = 1
    # The period is a power of 2, so only these numbers are tried.
    while first_odd(gates, amounts) is not None:
        amounts[lane] = 2 * amounts[lane]
    return amounts[lane]


def basis_of(board):
    """Return a basis of the neutral amounts."""
    check_board(board)
    _, basis = free_and_basis(board)
    return basis


def first_odd(gates, amounts):
    """Return the index of the first gate that an odd number passes, None if there is none."""
    passing = list(amounts)
    for index, (first, second) in enumerate(gates):
        many = passing[first] + passing[second]
        if many % 2 == 1:
            return index
        # Halves are whole here, so the pointer does not matter.
        passing[first] = many // 2
        passing[second] = many // 2
    return None


def free_and_basis(board):
    """Return the indices of the free gates and a basis of the neutral amounts."""
    lane_count = board.lane_count
    gates = board.gate_list
    # Before a gate is looked at, `basis` is one of the amounts that are
    # neutral for the gates before it; at first these are all amounts.
    basis = [[0] * lane + [1] + [0] * (lane_count - 1 - lane) for lane in range(lane_count)]
    free = []
    for index in range(len(gates)):
        odd = [row for row, amounts in enumerate(basis) if first_odd(gates, amounts) == index]
        if odd:
            free.append(index)
            basis = evened(basis, odd)
    return free, basis


def evened(basis, odd):
    """Return a basis of those sums that contain an even number of the lists at the odd places."""
    chosen = basis[odd[0]]
    found = [difference(amounts, chosen) if row in odd else amounts for row, amounts in enumerate(basis)]
    found[odd[0]] = [2 * amount for amount in chosen]
    return found


def difference(amounts, other_amounts):
    """Return amounts minus others, lane by lane."""
    return [one - other for one, other in zip(amounts, other_amounts)]
