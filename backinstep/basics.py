"""What every part asks of a value: integers, sequences, states, rows, lots, pairs."""

from backinstep.errors import BadRow, NoPair, NoSignal, NoState, Refused

MOST_NUMBER = 10 ** 18
MOST_ROW = 10000
ALL_SIGNALS = "abcde"


def is_integer(value):
    """Whether any value is an integer; bools are none."""
    return isinstance(value, int) and not isinstance(value, bool)


def is_number(value):
    """Whether any value is an integer from 0 on."""
    return is_integer(value) and value >= 0


def is_number_to(value, least, most):
    """Whether any value is an integer from least to most."""
    return is_integer(value) and least <= value <= most


def is_sequence(value):
    """Whether any value is a list or a tuple."""
    return isinstance(value, (list, tuple))


def is_sequence_of(value, many):
    """Whether any value is a list or a tuple of so many things."""
    return isinstance(value, (list, tuple)) and len(value) == many


def are_integers(value, many):
    """Whether any value is a sequence of so many integers."""
    return is_sequence_of(value, many) and all([is_integer(item) for item in value])


def is_state(device, value):
    """Whether any value is a state of the device."""
    return is_number(value) and value < device.states


def is_signal(device, value):
    """Whether any value is a signal of the device."""
    return isinstance(value, str) and len(value) == 1 and value in device.signals


def is_told_pair(device, value):
    """Whether any value is a pair of the device, perhaps written as a list."""
    if not is_sequence_of(value, 2):
        return False
    one, other = value
    return is_state(device, one) and is_state(device, other) and one < other


def is_pair(device, value):
    """Whether any value is a pair of the device."""
    return isinstance(value, tuple) and is_told_pair(device, value)


def is_lot_of(signals, value):
    """Whether any value is a lot of some signals, perhaps the empty one."""
    if not isinstance(value, str) or len(value) > len(signals):
        return False
    return value == "".join([sign for sign in signals if sign in value])


def is_lot(device, value):
    """Whether any value is a lot of the device's signals, perhaps the empty one."""
    return is_lot_of(device.signals, value)


def check_number(value, least=0, most=MOST_NUMBER):
    """Raise Refused for any value that is no integer from least to most."""
    if not is_number_to(value, least, most):
        raise Refused(value)


def check_state(device, value):
    """Raise NoState for any value that is no state."""
    if not is_state(device, value):
        raise NoState(value)


def check_signal(device, value):
    """Raise NoSignal for any value that is no signal."""
    if not is_signal(device, value):
        raise NoSignal(value)


def check_pair(device, value):
    """Raise NoPair for any value that is no pair."""
    if not is_pair(device, value):
        raise NoPair(value)


def check_row(device, value):
    """Raise BadRow for any value that is no row."""
    if not isinstance(value, str):
        raise BadRow(-1)
    for at, sign in enumerate(value):
        if sign not in device.signals:
            raise BadRow(at)
    if len(value) > MOST_ROW:
        raise BadRow(MOST_ROW)


def is_row(device, value):
    """Whether any value is a row of the device."""
    if not isinstance(value, str) or len(value) > MOST_ROW:
        return False
    return all([sign in device.signals for sign in value])


def lies_in(lot, other):
    """Whether the other lot has all signals of a lot."""
    return all([sign in other for sign in lot])


def do_meet(lot, other):
    """Whether two lots have a signal in common."""
    return any([sign in other for sign in lot])


def in_lot_order(lots):
    """The lots, those with the fewest signals first, then as strings."""
    return tuple(sorted(lots, key=lambda lot: (len(lot), lot)))


def all_lots(signals):
    """All lots of some signals but the empty one, in their order."""
    lots = [""]
    for sign in signals:
        lots = lots + [lot + sign for lot in lots]
    return in_lot_order(lots[1:])
