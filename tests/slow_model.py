"""A slow model of a board: each token and each return goes from gate to gate by itself.

It follows points 7 to 9 of the document word by word and shares no code with the
package, so that the tests can compare the two.
"""


class SlowFlow:
    def __init__(self, lanes, gates, start):
        self.lanes = lanes
        self.gates = gates
        self.setting = list(start)
        self.amounts = [0] * lanes
        self.inside = []
        self.exits = []
        self.given = []
        self.taken = []

    def enter(self, lane, is_return=False):
        self.inside.append([lane, 0, is_return])

    def step(self, place):
        """Let the one at a place of `inside` pass its next gate, or leave and return its number."""
        lane, index, is_return = self.inside[place]
        while index < len(self.gates) and lane not in self.gates[index]:
            index += 1
        if index == len(self.gates):
            del self.inside[place]
            return self.leave(lane, is_return)
        if is_return:
            self.setting[index] = 1 if self.setting[index] == 0 else 0
            lane = self.gates[index][self.setting[index]]
        else:
            lane = self.gates[index][self.setting[index]]
            self.setting[index] = 1 if self.setting[index] == 0 else 0
        self.inside[place] = [lane, index + 1, is_return]
        return None

    def leave(self, lane, is_return):
        self.exits.append(lane)
        before = self.amounts[lane]
        if is_return:
            self.taken.append(lane + self.lanes * (before - 1))
            self.amounts[lane] = before - 1
            return self.taken[-1]
        self.given.append(lane + self.lanes * before)
        self.amounts[lane] = before + 1
        return self.given[-1]

    def finish_first(self):
        while self.inside:
            self.step(0)

    def finish_mixed(self, chance):
        """Let all leave in an order of steps that is drawn."""
        while self.inside:
            self.step(chance.randrange(len(self.inside)))


def send_in_turn(board, entries, start):
    """Return the flow after tokens have entered and left one after the other."""
    flow = SlowFlow(board.lane_count, board.gate_list, start)
    for lane in entries:
        flow.enter(lane)
        flow.finish_first()
    return flow


def send_mixed(board, amounts, start, chance, extra=0):
    """Return the flow after tokens and returns of these amounts have gone on in a drawn order.

    On each lane `extra` tokens and as many returns enter besides.
    """
    crowd = []
    for lane, amount in enumerate(amounts):
        tokens = max(amount, 0) + extra
        returns = max(-amount, 0) + extra
        crowd += [(lane, False)] * tokens + [(lane, True)] * returns
    chance.shuffle(crowd)
    flow = SlowFlow(board.lane_count, board.gate_list, start)
    while crowd or flow.inside:
        if crowd and (not flow.inside or chance.random() < 0.4):
            flow.enter(*crowd.pop())
        else:
            flow.step(chance.randrange(len(flow.inside)))
    return flow


def standing(flow):
    """Return the numbers that were not given as often as taken back, and how much more often."""
    numbers = sorted(set(flow.given + flow.taken))
    counted = [(number, flow.given.count(number) - flow.taken.count(number)) for number in numbers]
    return [(number, many) for number, many in counted if many != 0]
