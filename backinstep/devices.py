"""Devices, and what rows of signals do to their states."""

from backinstep.basics import (
    ALL_SIGNALS, MOST_NUMBER, check_row, check_signal, check_state, is_integer, is_lot, is_number_to, is_row,
    is_sequence, is_sequence_of, is_state,
)
from backinstep.errors import BadCounts, BadDevice, BadPieces, Refused

MOST_STATES = 60
MOST_PIECES = 200


class Device:
    """A finite table: for each signal, by state, the state that follows."""

    def __init__(self, tables):
        self.tables = checked_tables(tables)
        self.states = len(self.tables[0])
        self.signals = ALL_SIGNALS[:len(self.tables)]

    def __eq__(self, other):
        return isinstance(other, Device) and self.tables == other.tables

    def step(self, state, signal):
        """The next state."""
        check_state(self, state)
        check_signal(self, signal)
        return self.tables[self.signals.index(signal)][state]

    def after(self, state, row):
        """The state behind a row."""
        check_state(self, state)
        check_row(self, row)
        return row_end(self, state, row)

    def effect(self, row):
        """By state the state behind a row."""
        check_row(self, row)
        return row_effect(self, row)

    def places(self, row):
        """The states that are taken behind a row."""
        return effect_places(self.effect(row))

    def left_alone(self, row):
        """The states that a row leads to themselves."""
        return effect_left(self.effect(row))


def is_table(value, states):
    """Whether any value tells a state for each of so many states."""
    return is_sequence_of(value, states) and all([is_number_to(item, 0, states - 1) for item in value])


def checked_tables(tables):
    """The tables of a device as tuples, or BadDevice."""
    if not is_sequence(tables) or not 1 <= len(tables) <= len(ALL_SIGNALS):
        raise BadDevice(-1)
    first = tables[0]
    if not is_sequence(first) or not 1 <= len(first) <= MOST_STATES:
        raise BadDevice(0)
    for at, table in enumerate(tables):
        if not is_table(table, len(first)):
            raise BadDevice(at)
    return tuple([tuple(table) for table in tables])


def signal_tables(device):
    """By signal its table."""
    return dict(zip(device.signals, device.tables))


def row_end(device, state, row):
    """The state behind a row that is known to be one, of any length."""
    tables = signal_tables(device)
    for sign in row:
        state = tables[sign][state]
    return state


def row_effect(device, row):
    """The effect of a row that is known to be one, of any length."""
    tables = signal_tables(device)
    ends = list(range(device.states))
    for sign in row:
        table = tables[sign]
        ends = [table[state] for state in ends]
    return tuple(ends)


def counts_of(signals, row):
    """By signal how often it comes in a row that is known to be one."""
    return tuple([row.count(sign) for sign in signals])


def check_counts(device, counts):
    """The tuple of any value that is counts of the device's signals, or BadCounts."""
    if not is_sequence_of(counts, len(device.signals)):
        raise BadCounts(-1)
    for at, count in enumerate(counts):
        if not is_number_to(count, 0, MOST_NUMBER):
            raise BadCounts(at)
    return tuple(counts)


def row_counts(device, row):
    """By signal how often it comes in a row."""
    check_row(device, row)
    return counts_of(device.signals, row)


def row_lot(device, row):
    """The lot of a row's signals."""
    check_row(device, row)
    return "".join([sign for sign in device.signals if sign in row])


def joined_effects(one, other):
    """The effect of one and then the other one."""
    return tuple([other[state] for state in one])


def said_effect(effect, times):
    """The effect of an effect a number of times."""
    power = tuple(effect)
    done = tuple(range(len(power)))
    while times:
        if times & 1:
            done = joined_effects(done, power)
        power = joined_effects(power, power)
        times = times // 2
    return done


def effect_places(effect):
    """The states that are taken behind an effect."""
    return tuple(sorted(set(effect)))


def effect_left(effect):
    """The states that an effect leads to themselves."""
    return tuple([state for state, end in enumerate(effect) if state == end])


def is_piece(device, value):
    """Whether any value tells a word of the device and how often it is said, from once on."""
    if not is_sequence_of(value, 2):
        return False
    word, times = value
    return is_row(device, word) and word != "" and is_integer(times) and times >= 1


def check_pieces(device, pieces):
    """The tuples of any value that is pieces of a row, or BadPieces."""
    if not is_sequence(pieces) or len(pieces) > MOST_PIECES:
        raise BadPieces(-1)
    left = MOST_NUMBER
    for at, piece in enumerate(pieces):
        if not is_piece(device, piece):
            raise BadPieces(at)
        left = left - len(piece[0]) * piece[1]
        if left < 0:
            raise BadPieces(at)
    return tuple([(word, times) for word, times in pieces])


def pieces_length(pieces):
    """How many signals the row of some pieces has."""
    return sum([len(word) * times for word, times in pieces])


def pieces_effect(device, pieces):
    """The effect of the row of some pieces."""
    effect = tuple(range(device.states))
    for word, times in check_pieces(device, pieces):
        effect = joined_effects(effect, said_effect(row_effect(device, word), times))
    return effect


def pieces_counts(device, pieces):
    """By signal how often it comes in the row of some pieces."""
    told = check_pieces(device, pieces)
    return tuple([sum([word.count(sign) * times for word, times in told]) for sign in device.signals])


def cut_device(device, states):
    """The device of some states that all signals keep within, numbered in ascending order."""
    if not is_sequence(states) or not states or not all([is_state(device, state) for state in states]):
        raise Refused(states)
    kept = sorted(set(states))
    if len(kept) != len(states):
        raise Refused(states)
    names = {state: name for name, state in enumerate(kept)}
    if not all([table[state] in names for table in device.tables for state in kept]):
        raise Refused(states)
    return Device([[names[table[state]] for state in kept] for table in device.tables])


def few_signals(device, lot):
    """The device with the signals of a lot alone, named anew in order."""
    if not is_lot(device, lot) or lot == "":
        raise Refused(lot)
    tables = signal_tables(device)
    return Device([tables[sign] for sign in lot])
