"""Those who are on a board at one moment: where they are, and what has left."""


class Traffic:
    """A setting, the amounts, and where the tokens and returns are; one step changes it.

    `inside` has for each ticket the tuple of its lane, the index of the next gate on its way
    (None if there is none) and whether it is a return. `left` is the list of the tuples of a
    ticket and a number, for those that have left, in order.
    """

    def __init__(self, gates, setting, amounts):
        self.gates = gates
        self.setting = setting
        self.amounts = amounts
        self.inside = {}
        self.left = []

    def another(self):
        """Return a copy that goes on without an effect on this one."""
        found = Traffic(self.gates, list(self.setting), list(self.amounts))
        found.inside = dict(self.inside)
        found.left = list(self.left)
        return found

    def has_return(self):
        """Return whether a return is on the board."""
        return any([is_return for _, _, is_return in self.inside.values()])

    def admit(self, lane, is_return):
        """Let a token or a return enter on a lane, return its ticket."""
        # Each ticket that was given belongs to one that is inside or has left.
        ticket = len(self.inside) + len(self.left)
        self.inside[ticket] = (lane, self.next_gate(lane, 0), is_return)
        return ticket

    def step(self, ticket):
        """Let one pass its next gate, or leave; return its number if it leaves, otherwise None."""
        lane, gate, is_return = self.inside[ticket]
        if gate is None:
            return self.leave(ticket, lane, is_return)
        before = self.setting[gate]
        after = 1 - before
        self.setting[gate] = after
        behind = self.gates[gate][after if is_return else before]
        self.inside[ticket] = (behind, self.next_gate(behind, gate + 1), is_return)
        return None

    def leave(self, ticket, lane, is_return):
        """Let one leave on a lane, return the number that it gets or takes back."""
        del self.inside[ticket]
        before = self.amounts[lane]
        after = before - 1 if is_return else before + 1
        self.amounts[lane] = after
        number = lane + len(self.amounts) * min(before, after)
        self.left.append((ticket, number))
        return number

    def send_out(self, ticket):
        """Let one go on until it has left, return its number."""
        number = None
        while number is None:
            number = self.step(ticket)
        return number

    def next_gate(self, lane, first):
        """Return the index of the next gate on a lane, from a first one on, None if there is none."""
        for index in range(first, len(self.gates)):
            if lane in self.gates[index]:
                return index
        return None
