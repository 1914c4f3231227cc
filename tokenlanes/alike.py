"""Settings and boards from which the same tokens leave on the same lanes."""

from tokenlanes.boards import check_board
from tokenlanes.checks import check_few_gates, chosen_setting
from tokenlanes.errors import Different
from tokenlanes.moves import least_parting, moves_of, number_of, setting_of


def alike_settings(board):
    """Return the list of all settings by which ones are alike on a board."""
    check_board(board)
    check_few_gates(board)
    classes = {}
    for number, mark in enumerate(class_marks(moves_of(board))):
        classes.setdefault(mark, []).append(setting_of(board, number))
    return list(classes.values())


def are_alike(board, other, *, start=None, other_start=None):
    """Return whether two boards with these settings are alike."""
    return parting_entries(board, other, start=start, other_start=other_start) is None


def parting_entries(board, other, *, start=None, other_start=None):
    """Return the least of the shortest lists of entries whose last token leaves on different lanes."""
    check_board(board)
    check_board(other)
    if board.lane_count != other.lane_count:
        raise Different("the boards have different numbers of lanes")
    setting = chosen_setting(board, start)
    other_setting = chosen_setting(other, other_start)
    check_few_gates(board)
    check_few_gates(other)
    return least_parting(moves_of(board), number_of(setting), moves_of(other), number_of(other_setting))


def class_marks(moves):
    """Return a mark for each setting, equal ones for settings that are alike."""
    marks = []
    finer = [0] * len(moves)
    # After n rounds two settings have equal marks if no n tokens part them. When
    # a round parts no more settings, no further one does.
    while finer != marks:
        marks = finer
        finer = marks_of([tuple([(way_out, marks[after]) for way_out, after in row]) for row in moves])
    return marks


def marks_of(signs):
    """Return for each sign the number of other signs that stand before its first place."""
    found = {}
    for sign in signs:
        found.setdefault(sign, len(found))
    return [found[sign] for sign in signs]
