"""Texts of boards, and texts that are none."""

import re


def text_of(lanes, gates):
    return str(lanes) + ":" + "".join([" " + str(first) + "-" + str(second) for first, second in gates])


NO_TEXTS = [
    "", " ", ":", "2", "3", "::", " :", "-:", "2: ", "2 :", " 2:", "2:\n", "\n2:", "2:2:", "2; 0-1", "2 0-1",
    "02:", "+2:", "-2:", "2.0:", "0b10:", "10:", "22:", "0:", "1:", "9:", "a:", "two:",
    "2:0-1", "2:  0-1", "2: 0-1 ", "2: 0-1  1-0", "2: 0-1\n", "2: 0-1,1-0", "2: 0-11-0", "2:\t0-1", "2:\n0-1",
    "2: 0", "2: 0-", "2: -1", "2: 0 1", "2: 01", "2: 0_1", "2: 0+1", "2: 0--1", "2: 0-1-0", "2: 00-1", "2: 0-01",
    "2: +0-1", "2: 0-+1", "2: -0-1", "2: 0- 1", "2: 0 -1", "2: 0-1 1", "2: 0-1 1-", "2: 0-1 1-0 0",
    "2: 0-0", "2: 1-1", "2: 0-2", "2: 2-0", "3: 0-3", "7: 0-7", "8: 0-8", "8: 8-0", "8: 0-9", "2: a-b", "2: 0-1 0-x",
    "2: --1", "2: 0--", "2:  -1", "2: x-1", "(2, [])", "2: (0, 1)", "1: 0-0", "9: 0-1", "9: 0-8",
    "\u0662:", "2: \u0660-1", "2: 0\u20101", "\uff12:", "2:\u00a00-1", "\u00b2:",
]


def one_sign_other(text, signs):
    """Return the texts with one sign more, one less or another one."""
    found = [text[:at] + text[at + 1:] for at in range(len(text))]
    found += [text[:at] + sign + text[at + 1:] for at in range(len(text)) for sign in signs if sign != text[at]]
    return found + [text[:at] + sign + text[at:] for at in range(len(text) + 1) for sign in signs]


def is_board_text(text):
    """Return whether a text of printable signs is that of a board."""
    if not re.fullmatch("[2-8]:( [0-7]-[0-7])*", text) or text.count("-") > 24:
        return False
    gates = text.split(" ")[1:]
    return all(gate[0] != gate[2] and max(gate) < text[0] for gate in gates)
