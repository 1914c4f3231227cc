"""A slow model of a flow: the slow model of a board, with tickets and all its former states.

It follows the interface of the document word by word and shares no code with the package. An
error is told by the name of its class, as a text in place of the result.
"""

import copy

from slow_model import SlowFlow

WRONG_TICKET = "InvalidTicket"


class SlowTickets:
    def __init__(self, board, start):
        self.state = {
            "flow": SlowFlow(board.lane_count, board.gate_list, start), "tickets": [], "entered": 0, "events": [],
        }
        self.former = []

    def keep(self):
        self.former.append(copy.deepcopy(self.state))

    def enter(self, lane, is_return=False):
        self.keep()
        self.state["flow"].enter(lane, is_return)
        self.state["tickets"].append(self.state["entered"])
        self.state["entered"] += 1
        return self.state["tickets"][-1]

    def give_back(self, lane):
        return self.enter(lane, True)

    def step(self, ticket):
        place = self.state["tickets"].index(ticket)
        number = self.state["flow"].step(place)
        if number is not None:
            del self.state["tickets"][place]
            self.state["events"].append((ticket, number))
        return number

    def advance(self, ticket):
        if ticket not in self.state["tickets"]:
            return WRONG_TICKET
        self.keep()
        return self.step(ticket)

    def finish(self, *tickets):
        if any(tickets.count(ticket) > 1 or ticket not in self.state["tickets"] for ticket in tickets):
            return WRONG_TICKET
        if not tickets:
            return []
        self.keep()
        numbers = []
        for ticket in tickets:
            while ticket in self.state["tickets"]:
                number = self.step(ticket)
            numbers.append(number)
        return numbers

    def finish_all(self):
        return self.finish(*sorted(self.state["tickets"]))

    def undo(self):
        if not self.former:
            return "NothingToUndo"
        self.state = self.former.pop()
        return None

    def inside_now(self):
        flow = self.state["flow"]
        found = []
        for ticket, (lane, first, _) in zip(self.state["tickets"], flow.inside):
            ahead = [index for index in range(first, len(flow.gates)) if lane in flow.gates[index]]
            found.append((ticket, lane, ahead[0] if ahead else None))
        return sorted(found)

    def has_return(self):
        return any(is_return for _, _, is_return in self.state["flow"].inside)

    def at_end(self, chance):
        """Return the flow behind it, and its tickets and numbers, in an order of steps that is drawn."""
        other = copy.deepcopy(self)
        while other.state["tickets"]:
            other.step(chance.choice(other.state["tickets"]))
        return other

    def open_numbers(self):
        """Return for each ticket on the board the ascending list of its numbers over all orders of the steps."""
        flow = self.state["flow"]
        first = ({ticket: tuple(told) for ticket, told in zip(self.state["tickets"], flow.inside)}, flow)
        found = {ticket: set() for ticket in self.state["tickets"]}
        level = {key_of(*first): first}
        while level:
            further = {}
            for inside, standing in level.values():
                for place, ticket in enumerate(inside):
                    after = copy_of(standing, inside)
                    number = after.step(place)
                    still = [other for other in inside if other != ticket or number is None]
                    if number is not None:
                        found[ticket].add(number)
                    state = (dict(zip(still, map(tuple, after.inside))), after)
                    further.setdefault(key_of(*state), state)
            level = further
        return {ticket: sorted(numbers) for ticket, numbers in found.items()}


def key_of(inside, flow):
    return tuple(inside.items()), tuple(flow.setting), tuple(flow.amounts)


def copy_of(flow, inside):
    """Return a flow with the same setting and amounts, and with those who are inside."""
    found = SlowFlow(flow.lanes, flow.gates, flow.setting)
    found.amounts = list(flow.amounts)
    found.inside = [list(told) for told in inside.values()]
    return found
