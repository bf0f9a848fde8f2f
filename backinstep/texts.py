"""Devices as texts."""

from backinstep.basics import ALL_SIGNALS
from backinstep.devices import MOST_STATES, Device
from backinstep.errors import BadText

DIGITS = "0123456789"


def device_text(device):
    """The text of a device: a line for the states and one for each signal."""
    lines = [f"states {device.states}"]
    for sign, table in zip(device.signals, device.tables):
        lines.append(" ".join([sign] + [str(state) for state in table]))
    return "\n".join(lines)


def read_device(text):
    """The device of a text, or BadText with the first line that is wrong, lacks or is one too many."""
    if not isinstance(text, str):
        raise BadText(0)
    lines = text.split("\n")
    states = read_states(lines[0])
    if states == 0:
        raise BadText(1)
    if len(lines) == 1:
        raise BadText(2)
    tables = []
    for at, line in enumerate(lines[1:]):
        table = read_table(line, at, states)
        if not table:
            raise BadText(at + 2)
        tables.append(table)
    return Device(tables)


def read_states(line):
    """How many states the first line tells, 0 if it is none."""
    words = line.split(" ")
    if len(words) != 2 or words[0] != "states":
        return 0
    return max(0, read_number(words[1], MOST_STATES))


def read_table(line, at, states):
    """The table in the line of the signal with an index, empty if it is none."""
    words = line.split(" ")
    if at >= len(ALL_SIGNALS) or words[0] != ALL_SIGNALS[at] or len(words) != states + 1:
        return []
    table = [read_number(word, states - 1) for word in words[1:]]
    return table if min(table) >= 0 else []


def read_number(word, most):
    """The number from 0 to most that a word writes, -1 if it writes none."""
    # only so many digits are read, since Python refuses to read very many
    if word == "" or len(word) > len(str(most)) or not all([sign in DIGITS for sign in word]):
        return -1
    if word[0] == "0" and word != "0":
        return -1
    number = int(word)
    return number if number <= most else -1
