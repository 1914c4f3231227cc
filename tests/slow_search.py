"""Plain searches over settings, tokens and amounts, on the slow model alone.

They share no code with the package. What they look for is found in another way than the
package finds it: all at once and without its short cuts.
"""

import itertools
from fractions import Fraction

from slow_model import SlowFlow


def send_one(board, setting, lane):
    """Return the lane on which one token leaves, and the setting afterwards as a tuple."""
    flow = SlowFlow(board.lane_count, board.gate_list, setting)
    flow.enter(lane)
    flow.finish_first()
    return flow.exits[0], tuple(flow.setting)


def settings_from(board, start):
    """Return the ascending list of the settings to which tokens lead from a setting."""
    found = [tuple(start)]
    known = set(found)
    for setting in found:
        for lane in range(board.lane_count):
            after = send_one(board, setting, lane)[1]
            if after not in known:
                known.add(after)
                found.append(after)
    return [list(setting) for setting in sorted(found)]


def setting_after(board, start, amounts):
    """Return the setting after tokens and returns of these amounts, one after the other."""
    flow = SlowFlow(board.lane_count, board.gate_list, start)
    for lane, amount in enumerate(amounts):
        for _ in range(abs(amount)):
            flow.enter(lane, amount < 0)
            flow.finish_first()
    return flow.setting


def passing_numbers(board, amounts):
    """Return the numbers that pass the gates if each gate sends half of its number to each lane."""
    passing = [Fraction(amount) for amount in amounts]
    numbers = []
    for first, second in board.gate_list:
        numbers.append(passing[first] + passing[second])
        passing[first] = passing[second] = numbers[-1] / 2
    return numbers


def halves_are_whole(board, amounts):
    """Return whether an even number passes each gate, if each gate sends half to each lane."""
    return all((number / 2).denominator == 1 for number in passing_numbers(board, amounts))


def small_amounts(board, items, most_lanes=4):
    """Return the lists of amounts with these items on the first lanes and 0 on the others."""
    lanes = min(board.lane_count, most_lanes)
    rest = [0] * (board.lane_count - lanes)
    return [[*row, *rest] for row in itertools.product(items, repeat=lanes)]


def amounts_with_sum(lanes, total):
    """Return the lists of amounts of this many tokens, no returns, in ascending order."""
    if lanes == 1:
        return [[total]]
    return [[first, *rest] for first in range(total + 1) for rest in amounts_with_sum(lanes - 1, total - first)]


def fewest_from(board, start):
    """Return for each setting that can be reached, as a tuple, the least amounts of the fewest tokens."""
    many, send = len(settings_from(board, start)), sender(board)
    found = {}
    for total in itertools.count():
        for amounts in amounts_with_sum(board.lane_count, total):
            setting = tuple(start)
            for lane, amount in enumerate(amounts):
                for _ in range(amount):
                    setting = send(setting, lane)[1]
            found.setdefault(setting, amounts)
        if len(found) == many:
            return found


def sender(board):
    """Return a function of a setting and a lane that does what `send_one` does, but each thing once."""
    known = {}

    def send(setting, lane):
        if (setting, lane) not in known:
            known[setting, lane] = send_one(board, setting, lane)
        return known[setting, lane]

    return send


def states_from(first, lanes, step):
    states = [first]
    known = {first}
    for state in states:
        for lane in range(lanes):
            after = step(state, lane)[1]
            if after not in known:
                known.add(after)
                states.append(after)
    return states


def least_list(first, lanes, step):
    """Return the least of the shortest lists of lanes whose last step is wrong, None if there is none.

    `step(state, lane)` returns whether the step is wrong, and the state behind it. The search
    goes from the wrong steps back to the first state.
    """
    states = states_from(first, lanes, step)
    steps = {state: [step(state, lane) for lane in range(lanes)] for state in states}
    lengths = {state: 1 for state in states if any(wrong for wrong, _ in steps[state])}
    for length in itertools.count(2):
        further = [
            state for state in states if state not in lengths
            and any(lengths.get(after) == length - 1 for _, after in steps[state])
        ]
        if not further:
            break
        lengths.update({state: length for state in further})
    if first not in lengths:
        return None
    entries, state = [], first
    while lengths[state] > 1:
        entries.append(min(lane for lane in range(lanes) if lengths.get(steps[state][lane][1]) == lengths[state] - 1))
        state = steps[state][entries[-1]][1]
    return entries + [min(lane for lane in range(lanes) if steps[state][lane][0])]


def failing_list(board, start):
    """Return the least of the shortest lists of entries that fail to count, None if there is none."""
    lanes, send = board.lane_count, sender(board)

    def step(state, lane):
        setting, index = state
        way_out, after = send(setting, lane)
        return way_out != index, (after, (index + 1) % lanes)

    return least_list((tuple(start), 0), lanes, step)


def parting_list(board, start, other, other_start):
    """Return the least of the shortest lists of entries that leave two boards differently, or None."""
    lanes, send, send_other = board.lane_count, sender(board), sender(other)

    def step(state, lane):
        here, there = send(state[0], lane), send_other(state[1], lane)
        return here[0] != there[0], (here[1], there[1])

    return least_list((tuple(start), tuple(other_start)), lanes, step)


def determinant(rows):
    """Return the determinant of a square list of rows."""
    rows = [[Fraction(item) for item in row] for row in rows]
    product = Fraction(1)
    for at in range(len(rows)):
        pivot = next((row for row in range(at, len(rows)) if rows[row][at] != 0), None)
        if pivot is None:
            return Fraction(0)
        if pivot != at:
            rows[at], rows[pivot] = rows[pivot], rows[at]
            product = -product
        product *= rows[at][at]
        for row in range(at + 1, len(rows)):
            factor = rows[row][at] / rows[at][at]
            rows[row] = [one - factor * other for one, other in zip(rows[row], rows[at])]
    return product


def multiples_of(basis, amounts):
    """Return the multiples of the lists of a basis whose sum is a list of amounts, by Cramer's rule."""
    whole = determinant(basis)
    parts = [determinant(basis[:row] + [amounts] + basis[row + 1:]) for row in range(len(basis))]
    return [part / whole for part in parts]


def starts_by_search(board, seen, settings):
    """Return those of the settings from which the seen tokens leave as seen."""
    found = []
    for setting in settings:
        flow = SlowFlow(board.lane_count, board.gate_list, setting)
        for entry, _ in seen:
            flow.enter(entry)
            flow.finish_first()
        if flow.exits == [way_out for _, way_out in seen]:
            found.append(setting)
    return found


def first_without_start(board, seen, settings):
    """Return the least index such that the tokens up to it have no start, None if there is none."""
    for index in itertools.count():
        if index == len(seen):
            return None
        if not starts_by_search(board, seen[:index + 1], settings):
            return index
