"""A desk that runs commands on a flow and answers with texts."""

from tokenlanes.counting import is_counting
from tokenlanes.errors import InvalidCommand, InvalidText, NoFlow
from tokenlanes.flows import Flow
from tokenlanes.texts import read_board, show_setting

# A number of a command has no more digits than this.
MOST_DIGITS = 9
# The text of a list without numbers, and of a step behind which one is still on the board.
NOTHING = "-"
DONE = "ok"


def run_enter(flow, lane):
    """Let a token enter."""
    return str(flow.enter(lane))


def run_back(flow, lane):
    """Let a return enter."""
    return str(flow.give_back(lane))


def run_go(flow, ticket):
    """Let one go a step on."""
    number = flow.advance(ticket)
    return NOTHING if number is None else str(number)


def run_finish(flow, ticket):
    """Let one go on until it has left."""
    return shown(flow.finish(ticket))


def run_open(flow, ticket):
    """Tell the numbers that a token can get."""
    return shown(flow.numbers_open(ticket))


def run_all(flow):
    """Let all go on until they have left."""
    return shown(flow.finish_all())


def run_undo(flow):
    """Revert the last change."""
    flow.undo()
    return DONE


def run_setting(flow):
    """Tell the setting."""
    return show_setting(flow.board, flow.setting_now)


def run_amounts(flow):
    """Tell the amounts that have left."""
    return shown(flow.amounts_now)


def run_come(flow):
    """Tell the numbers that the tokens on the board will get."""
    return shown(flow.numbers_to_come())


def run_counts(flow):
    """Tell whether the board counts from the present setting."""
    return "yes" if is_counting(flow.board, start=flow.setting_now) else "no"


# The commands of one word, and those of a word and a lane or ticket.
PLAIN = {
    "all": run_all, "undo": run_undo, "setting": run_setting, "amounts": run_amounts, "come": run_come,
    "counts": run_counts,
}
NUMBERED = {"enter": run_enter, "back": run_back, "go": run_go, "finish": run_finish, "open": run_open}


class Desk:
    """A desk, at first without a flow."""

    def __init__(self):
        self._flow = None

    def execute(self, row):
        """Run one command and return its result, a text."""
        if not isinstance(row, str):
            raise InvalidCommand("a command is a text")
        word, _, rest = row.partition(" ")
        if word == "board":
            self._flow = flow_on(rest)
            return DONE
        if row in PLAIN:
            plain_action = PLAIN[row]
            return plain_action(self.flow_in_use())
        if word in NUMBERED and is_number(rest):
            action = NUMBERED[word]
            return action(self.flow_in_use(), int(rest))
        raise InvalidCommand("no such command")

    def flow_in_use(self):
        """Return the flow, raise NoFlow if there is none."""
        if self._flow is None:
            raise NoFlow("no board yet")
        return self._flow


def flow_on(text):
    """Return a new flow on the board with a text."""
    try:
        return Flow(read_board(text))
    except InvalidText:
        raise InvalidCommand("no board has this text") from None


def is_number(text):
    """Return whether a text is a decimal number of a command."""
    if not text.isascii() or not text.isdigit() or len(text) > MOST_DIGITS:
        return False
    return text == "0" or text[0] != "0"


def shown(numbers):
    """Return the text of a list of numbers."""
    return " ".join([str(number) for number in numbers]) if numbers else NOTHING
