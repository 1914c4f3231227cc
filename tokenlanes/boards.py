"""Boards of lanes and gates, and the settings that fit them."""

from tokenlanes.errors import Different, InvalidBoard, InvalidGate, InvalidLanes
from tokenlanes.errors import InvalidPower, InvalidText, TooLarge
from tokenlanes.kinds import is_between, is_gate, is_list_between

MAX_LANES = 8
MAX_GATES = 24
MAX_POWER = 3
DIGITS = "0123456789"
GATE_WIDTH = 4


class Board:
    """A board: some lanes, and the gates that tokens pass in their order."""

    def __init__(self, lanes, gates):
        if not is_between(lanes, 2, MAX_LANES):
            raise InvalidLanes("a board has 2 to 8 lanes")
        if not isinstance(gates, list):
            raise InvalidGate(None)
        for index, gate in enumerate(gates):
            if index == MAX_GATES or not is_gate(gate, lanes):
                raise InvalidGate(index)
        self._lanes = lanes
        self._gates = list(gates)

    @classmethod
    def full(cls, power):
        """Return the full board of a power."""
        if not is_between(power, 1, MAX_POWER):
            raise InvalidPower("the power of a full board is 1, 2 or 3")
        # One lane without gates stands for the power 0: each power follows the one below.
        lanes = 1
        gates = []
        for _ in range(power):
            gates = doubled_gates(lanes, gates)
            lanes = 2 * lanes
        return cls(lanes, gates)

    @classmethod
    def read(cls, text):
        """Return the board with a text."""
        if not isinstance(text, str) or text[1:2] != ":":
            raise InvalidText("the text of a board begins with a digit and a colon")
        lanes = DIGITS.find(text[0])
        gates = [read_gate(text[at:at + GATE_WIDTH]) for at in range(2, len(text), GATE_WIDTH)]
        try:
            return cls(lanes, gates)
        except (InvalidLanes, InvalidGate):
            raise InvalidText("no board has this text") from None

    @property
    def lane_count(self):
        """The number of lanes."""
        return self._lanes

    @property
    def gate_list(self):
        """The list of the gates."""
        return list(self._gates)

    @property
    def depth(self):
        """The greatest number of gates that a token can pass."""
        passed = [0] * self._lanes
        # A token meets a gate at most once, so some setting gives it each way
        # through the gates, and the longest way to each lane can be kept.
        for first, second in self._gates:
            longest = 1 + max(passed[first], passed[second])
            passed[first] = longest
            passed[second] = longest
        return max(passed)

    def followed_by(self, other):
        """Return the board with the gates of this one and then those of the other one."""
        check_board(other)
        if self._lanes != other.lane_count:
            raise Different("the boards have different numbers of lanes")
        gates = self._gates + other.gate_list
        if len(gates) > MAX_GATES:
            raise TooLarge(MAX_GATES)
        return Board(self._lanes, gates)

    def __len__(self):
        return len(self._gates)

    def __eq__(self, other):
        return isinstance(other, Board) and self._lanes == other._lanes and self._gates == other._gates


def check_board(value):
    """Raise InvalidBoard if any value is not a board."""
    if not isinstance(value, Board):
        raise InvalidBoard("not a board")


def is_setting(board, value):
    """Return whether any value is a setting of the board."""
    check_board(board)
    return is_list_between(value, 0, 1) and len(value) == len(board)


def doubled_gates(half, gates):
    """Return the gates of the full board that follows the one with these lanes and gates."""
    lanes = 2 * half
    upper = [(first + half, second + half) for first, second in gates]
    mirrored = [(lane, lanes - 1 - lane) for lane in range(half)]
    found = gates + upper + mirrored
    step = half // 2
    while step > 0:
        found = found + [(lane, lane + step) for lane in range(lanes) if lane % (2 * step) < step]
        step = step // 2
    return found


def read_gate(word):
    """Return the two numbers of a text like ' 0-1' as a tuple, None for another form."""
    if len(word) != GATE_WIDTH or word[0] != " " or word[2] != "-":
        return None
    return DIGITS.find(word[1]), DIGITS.find(word[3])
