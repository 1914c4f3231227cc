"""What can happen to tokens on a board, over all orders in which they go on."""

from itertools import permutations


def open_numbers(traffic, ticket):
    """Return the ascending list of the numbers that a token can get, if no return is on the board."""
    place = sorted(traffic.inside).index(ticket)
    found = {}
    for lanes in open_lanes(traffic):
        lane = lanes[place]
        # Those that leave on the same lane wait for each other there in any order.
        for before in range(lanes.count(lane)):
            found[lane + len(traffic.amounts) * (traffic.amounts[lane] + before)] = True
    return sorted(found)


def open_lanes(traffic):
    """Return the tuples of the lanes on which the tokens can leave together, in the order of their tickets."""
    tokens = [token for _, token in sorted(traffic.inside.items())]
    found = {tuple([lane for lane, _, _ in tokens]): True}
    # What happens depends only on the order in which the tokens reach each gate. Every choice
    # of these orders is met if all pass one gate before anyone passes a later one.
    for index, gate in enumerate(traffic.gates):
        nearing = [place for place, (_, ahead, _) in enumerate(tokens) if ahead is not None and ahead <= index]
        further = {}
        for lanes in found:
            passing = [place for place in nearing if lanes[place] in gate]
            for order in permutations(passing):
                further[lanes_behind(gate, traffic.setting[index], lanes, order)] = True
        found = further
    return list(found)


def lanes_behind(gate, pointer, lanes, order):
    """Return the tuple of the lanes behind a gate that those at some places pass in an order."""
    behind = list(lanes)
    for turn, place in enumerate(order):
        behind[place] = gate[(pointer + turn) % 2]
    return tuple(behind)
