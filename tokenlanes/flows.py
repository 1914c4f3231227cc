"""Tokens and returns that are on a board at the same time and go on step by step."""

from tokenlanes.boards import check_board
from tokenlanes.checks import check_lane, chosen_setting
from tokenlanes.errors import InvalidTicket, NothingToUndo, ReturnInside, TooLarge
from tokenlanes.kinds import is_whole
from tokenlanes.orders import open_numbers
from tokenlanes.traffic import Traffic

# More tokens than this are too many to look at all their orders.
FEW_TOKENS = 3


class Flow:
    """Tokens and returns on a board, at first none."""

    def __init__(self, board, *, start=None):
        check_board(board)
        setting = chosen_setting(board, start)
        self._board = board
        # The last item is the present one. No item changes once it stands here, so that
        # flows may share them, and `undo` only has to drop the last one.
        self._moments = [Traffic(board.gate_list, setting, [0] * board.lane_count)]

    @property
    def board(self):
        """The board."""
        return self._board

    @property
    def setting_now(self):
        """The setting."""
        return list(self._moments[-1].setting)

    @property
    def amounts_now(self):
        """The amounts that have left."""
        return list(self._moments[-1].amounts)

    @property
    def inside_now(self):
        """The ascending list of the tuples of ticket, lane and next gate of those on the board."""
        return [(ticket, lane, gate) for ticket, (lane, gate, _) in sorted(self._moments[-1].inside.items())]

    def __len__(self):
        return len(self._moments[-1].inside)

    def enter(self, lane):
        """Let a token enter on a lane, return its ticket."""
        return self.enter_as(lane, False)

    def give_back(self, lane):
        """Let a return enter on a lane, return its ticket."""
        return self.enter_as(lane, True)

    def enter_as(self, lane, is_return):
        """Let a token or a return enter on a lane, return its ticket."""
        check_lane(self._board, lane)
        moment = self._moments[-1].another()
        ticket = moment.admit(lane, is_return)
        self._moments.append(moment)
        return ticket

    def advance(self, ticket):
        """Let one pass its next gate, or leave; return its number if it leaves, otherwise None."""
        self.check_tickets([ticket])
        moment = self._moments[-1].another()
        number = moment.step(ticket)
        self._moments.append(moment)
        return number

    def finish(self, *tickets):
        """Let those with these tickets leave, one after the other; return the list of their numbers."""
        return self.finish_each(list(tickets))

    def finish_all(self):
        """Let all leave in the order of their tickets; return the list of their numbers."""
        return self.finish_each(sorted(self._moments[-1].inside))

    def finish_each(self, tickets):
        """Let those with the tickets of a list leave, one after the other; return their numbers."""
        self.check_tickets(tickets)
        if not tickets:
            return []
        moment = self._moments[-1].another()
        numbers = [moment.send_out(ticket) for ticket in tickets]
        self._moments.append(moment)
        return numbers

    def undo(self):
        """Revert the last change that was not reverted."""
        if len(self._moments) == 1:
            raise NothingToUndo("no change is left to revert")
        self._moments.pop()

    def amounts_at_end(self):
        """Return the amounts after all on the board have left."""
        moment = self._moments[-1].another()
        tickets = sorted(moment.inside)
        for ticket in tickets:
            moment.send_out(ticket)
        return moment.amounts

    def numbers_to_come(self):
        """Return the ascending list of the numbers that the tokens on the board will get."""
        self.check_no_return()
        lane_count = self._board.lane_count
        now = self._moments[-1].amounts
        end = self.amounts_at_end()
        return sorted([
            lane + lane_count * amount
            for lane, (before, after) in enumerate(zip(now, end)) for amount in range(before, after)
        ])

    def numbers_open(self, ticket):
        """Return the ascending list of the numbers that a token can get, in any order of the steps."""
        self.check_tickets([ticket])
        self.check_no_return()
        if len(self) > FEW_TOKENS:
            raise TooLarge(FEW_TOKENS)
        return open_numbers(self._moments[-1], ticket)

    def events(self):
        """Yield the tuples of ticket and number of those that have left, in order."""
        for event in self._moments[-1].left:
            yield event

    def twin(self):
        """Return an independent flow in the same state, with the same changes to undo."""
        other = Flow(self._board)
        other._moments = list(self._moments)
        return other

    def check_tickets(self, values):
        """Raise InvalidTicket if any value of a list is not the ticket of one on the board, or is there twice."""
        inside = self._moments[-1].inside
        for value in values:
            if not is_whole(value) or value not in inside:
                raise InvalidTicket("not the ticket of one that is on the board")
        if len(set(values)) < len(values):
            raise InvalidTicket("a ticket is there twice")

    def check_no_return(self):
        """Raise ReturnInside if a return is on the board."""
        if self._moments[-1].has_return():
            raise ReturnInside("a return is on the board")
